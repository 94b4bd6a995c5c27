/-
  Texts of the proof, put together.
-/
import Derived.Test.YtklpiihnbokkkaaGreatDoorFk32
import Derived.Test.YtklpiihnbokkkaaGreatDoorFk38
namespace Go.Proofs.YtklpiihnbokkkaaGreatDoor
open Go.RowKit Go.Joins TokMath StepMath TrimMath TokLenMath TellMath CntMath PackageMath
set_option maxHeartbeats 1600000 in
theorem implTrim (a:Option Addr) (n cap least:Nat) (f:Nat→Int) (w:World) (hC:Came w a n f) (h0:0 < n) (hn:n≤1048576) (hc:n≤cap) (hl:least≤1048576):
  Calls Tryz.prog 172 #[.slice a n cap,.int .i64 (least:Int)] w fun e w'=>e=.returned (.slice a (trimN f least n) cap)∧w'=w:=by
 rcases hC with q | ⟨g,off,rfl,hg,hcell⟩
 ·omega
 have HC:=hid_of hcell
 clear hcell
 go_enter Tryz.func172,Tryz.ntmps172
 go_wp2_with fail
 go_loopg [5] (n+1) (fun gk i w'=>∃ (j:Nat),j≤n∧j≤gk∧i=.int .i64 j∧w'=w∧Hid (trimN f least n=trimN f least j))
 case atStart=>exact⟨n,Nat.le_refl _,by omega,rfl,rfl,rfl⟩
 case round=>
  obtain⟨j,hj,hgk,rfl,rfl,hS⟩:=hrel
  by_cases hlt:least < j
  ·obtain⟨i,rfl⟩:∃ i,j=i+1:=⟨j - 1,by omega⟩
   have dl:decide ((least:Int) < ((i+1:Nat):Int))=true:=decide_eq_true (by omega)
   have hci:=HC.out i (by omega)
   by_cases hz:f i=0
   ·rw[hz] at hci
    have HT:=hid_of (hS.out.trans (trimN_zero hlt hz))
    clear hS hz
    have e1:((i+1:Nat):Int) - 1=(i:Int):=by omega
    go_wp2_with fail
    go_roundg i
    case measure=>omega
    case rel=>exact⟨i,by omega,Nat.le_refl _,rfl,rfl,HT⟩
   ·have dz:(f i == 0)=false:=by simpa using hz
    have HT:=hid_of (hS.out.trans (trimN_keep hz))
    clear hS
    go_wp2_with fail
    go_ret
    rw[HT.out]
    exact⟨rfl,rfl⟩
  ·have dl:decide ((least:Int) < (j:Int))=false:=decide_eq_false (by omega)
   have HT:=hid_of (hS.out.trans (trimN_least (by omega)))
   clear hS
   go_wp2_with fail
   go_ret
   rw[HT.out]
   exact⟨rfl,rfl⟩
structure CSt (w0 w:World) (p1 p2 g1 g2:Nat) (f1 f2:Nat→Int):Prop where
 b1:w.heap[p1]?=some (.cells #[.slice (some ⟨g1,0,none⟩) 286 286] 25 (0,0))
 b2:w.heap[p2]?=some (.cells #[.slice (some ⟨g2,0,none⟩) 30 30] 25 (0,0))
 o1:IOwn w w0.heap.size g1 286 286 f1
 o2:IOwn w w0.heap.size g2 30 30 f2
 n1:p1≠g1
 n2:p1≠g2
 n3:p2≠g1
 n4:p2≠g2
 n5:g1≠g2
 bl:Below w0.heap.size w0 w
theorem CSt.called {w0 w w':World} {p1 p2 g1 g2:Nat} {f1 f2:Nat→Int} (h:CSt w0 w p1 p2 g1 g2 f1 f2) (hb:Below w.heap.size w w'):CSt w0 w' p1 p2 g1 g2 f1 f2:=
 ⟨(hb.block _ (block_lt h.b1)).trans h.b1,(hb.block _ (block_lt h.b2)).trans h.b2,h.o1.called hb,h.o2.called hb,h.n1,h.n2,h.n3,h.n4,h.n5,bnext h.bl hb⟩
theorem setc_block {w:World} {g i k:Nat} (v:Value) (h:k≠g):(w.setCell ⟨g,i,none⟩ v).heap[k]?=w.heap[k]?:=Below.heap_setCell w ⟨g,i,none⟩ v k h
theorem CSt.one {w0 w:World} {p1 p2 g1 g2 n:Nat} {f1 f2:Nat→Int} (h:CSt w0 w p1 p2 g1 g2 f1 f2) (hn:n < 286) (x:Int):CSt w0 (w.setCell ⟨g1,n,none⟩ (.int .i64 x)) p1 p2 g1 g2 (upd f1 n x) f2:=
 ⟨(setc_block _ h.n1).trans h.b1,(setc_block _ h.n3).trans h.b2,h.o1.set n hn x,h.o2.keep (setc_block _ h.n5.symm),h.n1,h.n2,h.n3,h.n4,h.n5,Below.setCell (p:=⟨g1,n,none⟩) h.bl h.o1.base_le _⟩
theorem CSt.two {w0 w:World} {p1 p2 g1 g2 n:Nat} {f1 f2:Nat→Int} (h:CSt w0 w p1 p2 g1 g2 f1 f2) (hn:n < 30) (x:Int):CSt w0 (w.setCell ⟨g2,n,none⟩ (.int .i64 x)) p1 p2 g1 g2 f1 (upd f2 n x):=
 ⟨(setc_block _ h.n2).trans h.b1,(setc_block _ h.n4).trans h.b2,h.o1.keep (setc_block _ h.n5),h.o2.set n hn x,h.n1,h.n2,h.n3,h.n4,h.n5,Below.setCell (p:=⟨g2,n,none⟩) h.bl h.o2.base_le _⟩
theorem CSt.congr {w0 w:World} {p1 p2 g1 g2:Nat} {f1 f2 k1 k2:Nat→Int} (h:CSt w0 w p1 p2 g1 g2 f1 f2) (e1:∀ i,f1 i=k1 i) (e2:∀ i,f2 i=k2 i):CSt w0 w p1 p2 g1 g2 k1 k2:=
 ⟨h.b1,h.b2,h.o1.congr fun i _=>e1 i,h.o2.congr fun i _=>e2 i,h.n1,h.n2,h.n3,h.n4,h.n5,h.bl⟩
theorem iown_block {w:World} {base g n:Nat} (h:w.heap[g]?=some (.cells (madeCells #[Value.int .i64 0] n) 3 (0,0))) (hn:n≤maxLen) (hb:base≤g):IOwn w base g n n (fun _=>0):=by
 refine⟨n,madeCells #[Value.int .i64 0] n,(0,0),by rw [fints_length],hb,h,.inl rfl,by rw [fints_length]; exact Nat.le_refl _,hn,by simp [madeCells],?_⟩
 rw[made_ints,fints_length,List.take_of_length_le (by rw [fints_length]; exact Nat.le_refl _)]
theorem four_at (w:World) (A B C D:Obj):((((w.alloc A).alloc B).alloc C).alloc D).drew.heap[w.heap.size]?=some A∧((((w.alloc A).alloc B).alloc C).alloc D).drew.heap[w.heap.size+1]?=some B∧((((w.alloc A).alloc B).alloc C).alloc D).drew.heap[w.heap.size+1+1]?=some C∧((((w.alloc A).alloc B).alloc C).alloc D).drew.heap[w.heap.size+1+1+1]?=some D:=by
 have s1:(w.alloc A).heap.size=w.heap.size+1:=by simp
 have s2:((w.alloc A).alloc B).heap.size=w.heap.size+1+1:=by simp
 have s3:(((w.alloc A).alloc B).alloc C).heap.size=w.heap.size+1+1+1:=by simp
 have hb:=heap_alloc_new (w.alloc A) B
 have hc:=heap_alloc_new ((w.alloc A).alloc B) C
 have hd:=heap_alloc_new (((w.alloc A).alloc B).alloc C) D
 rw[s1] at hb
 rw[s2] at hc
 rw[s3] at hd
 refine⟨?_,?_,?_,hd⟩
 ·exact (Below.heap_alloc _ D _ (by omega)).trans ((Below.heap_alloc _ C _ (by omega)).trans ((Below.heap_alloc _ B _ (by omega)).trans (heap_alloc_new w A)))
 ·exact (Below.heap_alloc _ D _ (by omega)).trans ((Below.heap_alloc _ C _ (by omega)).trans hb)
 ·exact (Below.heap_alloc _ D _ (by omega)).trans hc
theorem cst_made {w X:World} {p1 p2 g1 g2:Nat} (hB:Below w.heap.size w X) (b1:X.heap[p1]?=some (.cells #[.slice (some ⟨g1,0,none⟩) 286 286] 25 (0,0))) (b2:X.heap[p2]?=some (.cells #[.slice (some ⟨g2,0,none⟩) 30 30] 25 (0,0))) (h1:X.heap[g1]?=some (.cells (madeCells #[Value.int .i64 0] 286) 3 (0,0))) (h2:X.heap[g2]?=some (.cells (madeCells #[Value.int .i64 0] 30) 3 (0,0))) (n:p1≠g1∧p1≠g2∧p2≠g1∧p2≠g2∧g1≠g2∧w.heap.size≤g1∧w.heap.size≤g2):CSt w X p1 p2 g1 g2 (fun _=>0) (fun _=>0):=
 ⟨b1,b2,iown_block h1 (by unfold maxLen; omega) n.2.2.2.2.2.1,iown_block h2 (by unfold maxLen; omega) n.2.2.2.2.2.2,n.1,n.2.1,n.2.2.1,n.2.2.2.1,n.2.2.2.2.1,hB⟩
def CntI (w0:World) (p1 p2 g1 g2:Nat) (w:World) (S:List (Bool×Cod)):Prop:=CSt w0 w p1 p2 g1 g2 (cnt false S) (cnt true S)
def CntT (g1 g2:Nat) (_:World) (g:Nat):Prop:=g=g1∨g=g2
def CntG (b:Bool) (s:Cod):Prop:=0≤s.1∧s.1≤(if b then 29 else 285)
theorem cnt_stays (w0:World) (p1 p2 g1 g2:Nat):Stays w0 (CntI w0 p1 p2 g1 g2) (CntT g1 g2) where
 called:=fun h hb=>⟨CSt.called h hb,fun _ h=>h⟩
 lt:=fun h ht=>by
  rcases ht with rfl | rfl
  ·exact h.o1.lt
  ·exact h.o2.lt
 below:=fun h=>h.bl
set_option maxRecDepth 100000 in
set_option maxHeartbeats 800000 in
theorem hears1 (w0:World) (p1 p2 g1 g2:Nat) (w:World) (S:List (Bool×Cod)) (s:Cod) (hI:CntI w0 p1 p2 g1 g2 w S) (hG:CntG false s) (hS:S.length≤24001):
  Calls Tryz.prog 169 #[codV s,.pointer (some ⟨p1,0,none⟩)] w fun e w'=>e=.returned (.tuple #[])∧CntI w0 p1 p2 g1 g2 w' (S ++ [(false,s)])∧w.heap.size≤w'.heap.size∧∀ g,g < w.heap.size→¬ CntT g1 g2 w g→w'.heap[g]?=w.heap[g]?:=by
 obtain⟨x,y,z⟩:=s
 obtain⟨h0,h1⟩:=hG
 simp only [Bool.false_eq_true,if_false] at h0 h1
 obtain⟨n,rfl⟩:=Int.eq_ofNat_of_zero_le h0
 have hn:n < 286:=by omega
 have hle:=cnt_le false S n
 have c0:w.cell? ⟨p1,0,none⟩=some (.slice (some ⟨g1,0,none⟩) 286 286):=(cell_of_block hI.b1 0).trans rfl
 have cl:=block_lt hI.b1
 have d0:=hI.o1.cell n hn
 have df:=hI.o1.free n hn
 have dl:=hI.o1.lt
 have HI:=hid_of hI
 have HS:=hid_of (cnt_snoc S false ((n:Int),y,z))
 have HZ:=hid_of (cnt_other S (b:=false) ((n:Int),y,z))
 obtain⟨V,hV⟩:∃ V,V=cnt false S n:=⟨_,rfl⟩
 rw[← hV] at d0 hle
 have HV:=hid_of hV
 clear hI hV
 unfold codV
 simp only []
 go_enter Tryz.func169,Tryz.ntmps169
 go_wp2_with fail
 go_end0
 refine⟨rfl,?_,?_,?_⟩
 ·first
  | refine CSt.congr ((HI.out.one hn (V+1)).called (bstart _ _)) ?_ ?_
  | refine CSt.congr ((HI.out.called (bstart w _)).one hn (V+1)) ?_ ?_
  ·intro i
   rw[HV.out]
   exact HS.out i
  ·exact fun i=>HZ.out i
 ·simp
 ·intro g hg hT
  have hne:g≠g1:=fun e=>hT (by unfold CntT; left; exact e)
  first
  | exact (Below.heap_alloc _ _ g (by simpa using hg)).trans (setc_block _ hne)
  | exact (setc_block _ hne).trans (Below.heap_alloc w _ g hg)
set_option maxRecDepth 100000 in
set_option maxHeartbeats 800000 in
theorem hears2 (w0:World) (p1 p2 g1 g2:Nat) (w:World) (S:List (Bool×Cod)) (s:Cod) (hI:CntI w0 p1 p2 g1 g2 w S) (hG:CntG true s) (hS:S.length≤24001):
  Calls Tryz.prog 170 #[codV s,.pointer (some ⟨p2,0,none⟩)] w fun e w'=>e=.returned (.tuple #[])∧CntI w0 p1 p2 g1 g2 w' (S ++ [(true,s)])∧w.heap.size≤w'.heap.size∧∀ g,g < w.heap.size→¬ CntT g1 g2 w g→w'.heap[g]?=w.heap[g]?:=by
 obtain⟨x,y,z⟩:=s
 obtain⟨h0,h1⟩:=hG
 simp only [if_true] at h0 h1
 obtain⟨n,rfl⟩:=Int.eq_ofNat_of_zero_le h0
 have hn:n < 30:=by omega
 have hle:=cnt_le true S n
 have c0:w.cell? ⟨p2,0,none⟩=some (.slice (some ⟨g2,0,none⟩) 30 30):=(cell_of_block hI.b2 0).trans rfl
 have cl:=block_lt hI.b2
 have d0:=hI.o2.cell n hn
 have df:=hI.o2.free n hn
 have dl:=hI.o2.lt
 have HI:=hid_of hI
 have HS:=hid_of (cnt_snoc S true ((n:Int),y,z))
 have HZ:=hid_of (cnt_other S (b:=true) ((n:Int),y,z))
 obtain⟨V,hV⟩:∃ V,V=cnt true S n:=⟨_,rfl⟩
 rw[← hV] at d0 hle
 have HV:=hid_of hV
 clear hI hV
 unfold codV
 simp only []
 go_enter Tryz.func170,Tryz.ntmps170
 go_wp2_with fail
 go_end0
 refine⟨rfl,?_,?_,?_⟩
 ·first
  | refine CSt.congr ((HI.out.two hn (V+1)).called (bstart _ _)) ?_ ?_
  | refine CSt.congr ((HI.out.called (bstart w _)).two hn (V+1)) ?_ ?_
  ·exact fun i=>HZ.out i
  ·intro i
   rw[HV.out]
   exact HS.out i
 ·simp
 ·intro g hg hT
  have hne:g≠g2:=fun e=>hT (by unfold CntT; right; exact e)
  first
  | exact (Below.heap_alloc _ _ g (by simpa using hg)).trans (setc_block _ hne)
  | exact (setc_block _ hne).trans (Below.heap_alloc w _ g hg)
theorem gd_count {t:Tok} (h:TokRight t):∀ x∈symsT t,CntG x.1 x.2:=by
 obtain⟨x,y,z⟩:=t
 intro q hq
 unfold TokRight at h
 by_cases hy:y=0
 ·subst hy
  rw[if_pos rfl] at h
  rw[symsT_byte,List.mem_singleton] at hq
  subst hq
  simp only [] at h
  exact⟨h.1.1,by simp only [Bool.false_eq_true,if_false]; omega⟩
 ·rw[if_neg hy] at h
  have ha:=len_range (y:=y) h.2.1
  have hb:=dist_range (z:=z) h.2.2
  rw[symsT_rep _ _ hy] at hq
  rcases List.mem_cons.mp hq with rfl | hq
  ·exact⟨by simp only []; omega,by simp only [Bool.false_eq_true,if_false]; omega⟩
  ·rw[List.mem_singleton] at hq
   subst hq
   exact⟨by simp only []; omega,by simp only [if_true]; omega⟩
theorem sl_own {w:World} {base:Nat} {a:Option Addr} {n cap:Nat} {f:Nat→Int} (h:SL w base a n cap f) (hn:0 < n):∃ g,a=some ⟨g,0,none⟩∧IOwn w base g n cap f:=by
 rcases h with h | h
 ·omega
 ·exact h
theorem iown_cap {w:World} {base g n cap:Nat} {f:Nat→Int} (h:IOwn w base g n cap f):n≤cap:=by
 obtain⟨cap',cur,fz,e,h1,h2,h3,h4,h5,h6,h7⟩:=h
 rw[fints_length] at e h4
 cases e
 exact h4
set_option maxRecDepth 100000 in
set_option maxHeartbeats 3200000 in
theorem tokLen_all (a:Option Addr) (c:Nat) (L:List Tok) (w:World) (hC:TCame w a L.length (fun j=>L.getD j (0,0,0))) (hL:L.length≤12000):
  Calls Tryz.prog 132 #[.slice a L.length c] w fun e w'=>
   ((∀ t∈L,TokRight t)→∃ a1 c1 a2 c2,e=.returned (.tuple #[.slice a1 (sizeA L) c1,.slice a2 (sizeB L) c2,.bool true])∧SL w' w.heap.size a1 (sizeA L) c1 (lenA L)∧SL w' w.heap.size a2 (sizeB L) c2 (lenB L)∧a1≠a2∧Below w.heap.size w w')∧
   (¬ (∀ t∈L,TokRight t)→e=.returned (.tuple #[.slice none 0 0,.slice none 0 0,.bool false])∧Below w.heap.size w w'):=by
 have d:decide ((12000:Int) < (L.length:Int))=false:=decide_eq_false (by omega)
 have d':decide (12000 < L.length)=false:=decide_eq_false (by omega)
 have HC:=hid_of hC
 clear hC
 have hm1:∀ W:World,(Instr.makeSlice 25 (.int .i64 286) (.int .i64 286)).run Tryz.prog W=_:=fun W=>make_ints W 286 (by omega)
 have hm2:∀ W:World,(Instr.makeSlice 25 (.int .i64 30) (.int .i64 30)).run Tryz.prog W=_:=fun W=>make_ints W 30 (by omega)
 go_enter Tryz.func132,Tryz.ntmps132
 go_wp2_with fail
 go_cut [5,6] from 15 to 16 (fun u v wx=>∃ p1 p2 g1 g2,u=.pointer (some ⟨p1,0,none⟩)∧v=.pointer (some ⟨p2,0,none⟩)∧Hid (CSt w wx p1 p2 g1 g2 (fun _=>0) (fun _=>0)))
 case first=>
  go_region
  all_goals
   go_wp2_with fail
   go_meet
   case rel=>
    first
    | exact⟨_,_,w.heap.size,w.heap.size+1,rfl,rfl,cst_made (bal (bal (bal (bstart w _) _) _) _).drew (by first | exact (four_at w _ _ _ _).1 | exact (four_at w _ _ _ _).2.1 | exact (four_at w _ _ _ _).2.2.1 | exact (four_at w _ _ _ _).2.2.2) (by first | exact (four_at w _ _ _ _).1 | exact (four_at w _ _ _ _).2.1 | exact (four_at w _ _ _ _).2.2.1 | exact (four_at w _ _ _ _).2.2.2) (by first | exact (four_at w _ _ _ _).1 | exact (four_at w _ _ _ _).2.1 | exact (four_at w _ _ _ _).2.2.1 | exact (four_at w _ _ _ _).2.2.2) (by first | exact (four_at w _ _ _ _).1 | exact (four_at w _ _ _ _).2.1 | exact (four_at w _ _ _ _).2.2.1 | exact (four_at w _ _ _ _).2.2.2) (by omega)⟩
    | exact⟨_,_,w.heap.size,w.heap.size+1+1,rfl,rfl,cst_made (bal (bal (bal (bstart w _) _) _) _).drew (by first | exact (four_at w _ _ _ _).1 | exact (four_at w _ _ _ _).2.1 | exact (four_at w _ _ _ _).2.2.1 | exact (four_at w _ _ _ _).2.2.2) (by first | exact (four_at w _ _ _ _).1 | exact (four_at w _ _ _ _).2.1 | exact (four_at w _ _ _ _).2.2.1 | exact (four_at w _ _ _ _).2.2.2) (by first | exact (four_at w _ _ _ _).1 | exact (four_at w _ _ _ _).2.1 | exact (four_at w _ _ _ _).2.2.1 | exact (four_at w _ _ _ _).2.2.2) (by first | exact (four_at w _ _ _ _).1 | exact (four_at w _ _ _ _).2.1 | exact (four_at w _ _ _ _).2.2.1 | exact (four_at w _ _ _ _).2.2.2) (by omega)⟩
    | exact⟨_,_,w.heap.size,w.heap.size+1+1+1,rfl,rfl,cst_made (bal (bal (bal (bstart w _) _) _) _).drew (by first | exact (four_at w _ _ _ _).1 | exact (four_at w _ _ _ _).2.1 | exact (four_at w _ _ _ _).2.2.1 | exact (four_at w _ _ _ _).2.2.2) (by first | exact (four_at w _ _ _ _).1 | exact (four_at w _ _ _ _).2.1 | exact (four_at w _ _ _ _).2.2.1 | exact (four_at w _ _ _ _).2.2.2) (by first | exact (four_at w _ _ _ _).1 | exact (four_at w _ _ _ _).2.1 | exact (four_at w _ _ _ _).2.2.1 | exact (four_at w _ _ _ _).2.2.2) (by first | exact (four_at w _ _ _ _).1 | exact (four_at w _ _ _ _).2.1 | exact (four_at w _ _ _ _).2.2.1 | exact (four_at w _ _ _ _).2.2.2) (by omega)⟩
    | exact⟨_,_,w.heap.size+1,w.heap.size,rfl,rfl,cst_made (bal (bal (bal (bstart w _) _) _) _).drew (by first | exact (four_at w _ _ _ _).1 | exact (four_at w _ _ _ _).2.1 | exact (four_at w _ _ _ _).2.2.1 | exact (four_at w _ _ _ _).2.2.2) (by first | exact (four_at w _ _ _ _).1 | exact (four_at w _ _ _ _).2.1 | exact (four_at w _ _ _ _).2.2.1 | exact (four_at w _ _ _ _).2.2.2) (by first | exact (four_at w _ _ _ _).1 | exact (four_at w _ _ _ _).2.1 | exact (four_at w _ _ _ _).2.2.1 | exact (four_at w _ _ _ _).2.2.2) (by first | exact (four_at w _ _ _ _).1 | exact (four_at w _ _ _ _).2.1 | exact (four_at w _ _ _ _).2.2.1 | exact (four_at w _ _ _ _).2.2.2) (by omega)⟩
    | exact⟨_,_,w.heap.size+1,w.heap.size+1+1,rfl,rfl,cst_made (bal (bal (bal (bstart w _) _) _) _).drew (by first | exact (four_at w _ _ _ _).1 | exact (four_at w _ _ _ _).2.1 | exact (four_at w _ _ _ _).2.2.1 | exact (four_at w _ _ _ _).2.2.2) (by first | exact (four_at w _ _ _ _).1 | exact (four_at w _ _ _ _).2.1 | exact (four_at w _ _ _ _).2.2.1 | exact (four_at w _ _ _ _).2.2.2) (by first | exact (four_at w _ _ _ _).1 | exact (four_at w _ _ _ _).2.1 | exact (four_at w _ _ _ _).2.2.1 | exact (four_at w _ _ _ _).2.2.2) (by first | exact (four_at w _ _ _ _).1 | exact (four_at w _ _ _ _).2.1 | exact (four_at w _ _ _ _).2.2.1 | exact (four_at w _ _ _ _).2.2.2) (by omega)⟩
    | exact⟨_,_,w.heap.size+1,w.heap.size+1+1+1,rfl,rfl,cst_made (bal (bal (bal (bstart w _) _) _) _).drew (by first | exact (four_at w _ _ _ _).1 | exact (four_at w _ _ _ _).2.1 | exact (four_at w _ _ _ _).2.2.1 | exact (four_at w _ _ _ _).2.2.2) (by first | exact (four_at w _ _ _ _).1 | exact (four_at w _ _ _ _).2.1 | exact (four_at w _ _ _ _).2.2.1 | exact (four_at w _ _ _ _).2.2.2) (by first | exact (four_at w _ _ _ _).1 | exact (four_at w _ _ _ _).2.1 | exact (four_at w _ _ _ _).2.2.1 | exact (four_at w _ _ _ _).2.2.2) (by first | exact (four_at w _ _ _ _).1 | exact (four_at w _ _ _ _).2.1 | exact (four_at w _ _ _ _).2.2.1 | exact (four_at w _ _ _ _).2.2.2) (by omega)⟩
    | exact⟨_,_,w.heap.size+1+1,w.heap.size,rfl,rfl,cst_made (bal (bal (bal (bstart w _) _) _) _).drew (by first | exact (four_at w _ _ _ _).1 | exact (four_at w _ _ _ _).2.1 | exact (four_at w _ _ _ _).2.2.1 | exact (four_at w _ _ _ _).2.2.2) (by first | exact (four_at w _ _ _ _).1 | exact (four_at w _ _ _ _).2.1 | exact (four_at w _ _ _ _).2.2.1 | exact (four_at w _ _ _ _).2.2.2) (by first | exact (four_at w _ _ _ _).1 | exact (four_at w _ _ _ _).2.1 | exact (four_at w _ _ _ _).2.2.1 | exact (four_at w _ _ _ _).2.2.2) (by first | exact (four_at w _ _ _ _).1 | exact (four_at w _ _ _ _).2.1 | exact (four_at w _ _ _ _).2.2.1 | exact (four_at w _ _ _ _).2.2.2) (by omega)⟩
    | exact⟨_,_,w.heap.size+1+1,w.heap.size+1,rfl,rfl,cst_made (bal (bal (bal (bstart w _) _) _) _).drew (by first | exact (four_at w _ _ _ _).1 | exact (four_at w _ _ _ _).2.1 | exact (four_at w _ _ _ _).2.2.1 | exact (four_at w _ _ _ _).2.2.2) (by first | exact (four_at w _ _ _ _).1 | exact (four_at w _ _ _ _).2.1 | exact (four_at w _ _ _ _).2.2.1 | exact (four_at w _ _ _ _).2.2.2) (by first | exact (four_at w _ _ _ _).1 | exact (four_at w _ _ _ _).2.1 | exact (four_at w _ _ _ _).2.2.1 | exact (four_at w _ _ _ _).2.2.2) (by first | exact (four_at w _ _ _ _).1 | exact (four_at w _ _ _ _).2.1 | exact (four_at w _ _ _ _).2.2.1 | exact (four_at w _ _ _ _).2.2.2) (by omega)⟩
    | exact⟨_,_,w.heap.size+1+1,w.heap.size+1+1+1,rfl,rfl,cst_made (bal (bal (bal (bstart w _) _) _) _).drew (by first | exact (four_at w _ _ _ _).1 | exact (four_at w _ _ _ _).2.1 | exact (four_at w _ _ _ _).2.2.1 | exact (four_at w _ _ _ _).2.2.2) (by first | exact (four_at w _ _ _ _).1 | exact (four_at w _ _ _ _).2.1 | exact (four_at w _ _ _ _).2.2.1 | exact (four_at w _ _ _ _).2.2.2) (by first | exact (four_at w _ _ _ _).1 | exact (four_at w _ _ _ _).2.1 | exact (four_at w _ _ _ _).2.2.1 | exact (four_at w _ _ _ _).2.2.2) (by first | exact (four_at w _ _ _ _).1 | exact (four_at w _ _ _ _).2.1 | exact (four_at w _ _ _ _).2.2.1 | exact (four_at w _ _ _ _).2.2.2) (by omega)⟩
    | exact⟨_,_,w.heap.size+1+1+1,w.heap.size,rfl,rfl,cst_made (bal (bal (bal (bstart w _) _) _) _).drew (by first | exact (four_at w _ _ _ _).1 | exact (four_at w _ _ _ _).2.1 | exact (four_at w _ _ _ _).2.2.1 | exact (four_at w _ _ _ _).2.2.2) (by first | exact (four_at w _ _ _ _).1 | exact (four_at w _ _ _ _).2.1 | exact (four_at w _ _ _ _).2.2.1 | exact (four_at w _ _ _ _).2.2.2) (by first | exact (four_at w _ _ _ _).1 | exact (four_at w _ _ _ _).2.1 | exact (four_at w _ _ _ _).2.2.1 | exact (four_at w _ _ _ _).2.2.2) (by first | exact (four_at w _ _ _ _).1 | exact (four_at w _ _ _ _).2.1 | exact (four_at w _ _ _ _).2.2.1 | exact (four_at w _ _ _ _).2.2.2) (by omega)⟩
    | exact⟨_,_,w.heap.size+1+1+1,w.heap.size+1,rfl,rfl,cst_made (bal (bal (bal (bstart w _) _) _) _).drew (by first | exact (four_at w _ _ _ _).1 | exact (four_at w _ _ _ _).2.1 | exact (four_at w _ _ _ _).2.2.1 | exact (four_at w _ _ _ _).2.2.2) (by first | exact (four_at w _ _ _ _).1 | exact (four_at w _ _ _ _).2.1 | exact (four_at w _ _ _ _).2.2.1 | exact (four_at w _ _ _ _).2.2.2) (by first | exact (four_at w _ _ _ _).1 | exact (four_at w _ _ _ _).2.1 | exact (four_at w _ _ _ _).2.2.1 | exact (four_at w _ _ _ _).2.2.2) (by first | exact (four_at w _ _ _ _).1 | exact (four_at w _ _ _ _).2.1 | exact (four_at w _ _ _ _).2.2.1 | exact (four_at w _ _ _ _).2.2.2) (by omega)⟩
    | exact⟨_,_,w.heap.size+1+1+1,w.heap.size+1+1,rfl,rfl,cst_made (bal (bal (bal (bstart w _) _) _) _).drew (by first | exact (four_at w _ _ _ _).1 | exact (four_at w _ _ _ _).2.1 | exact (four_at w _ _ _ _).2.2.1 | exact (four_at w _ _ _ _).2.2.2) (by first | exact (four_at w _ _ _ _).1 | exact (four_at w _ _ _ _).2.1 | exact (four_at w _ _ _ _).2.2.1 | exact (four_at w _ _ _ _).2.2.2) (by first | exact (four_at w _ _ _ _).1 | exact (four_at w _ _ _ _).2.1 | exact (four_at w _ _ _ _).2.2.1 | exact (four_at w _ _ _ _).2.2.2) (by first | exact (four_at w _ _ _ _).1 | exact (four_at w _ _ _ _).2.1 | exact (four_at w _ _ _ _).2.2.1 | exact (four_at w _ _ _ _).2.2.2) (by omega)⟩
 case rest=>
  obtain⟨p1,p2,g1,g2,rfl,rfl,hcs⟩:=hcut
  clear hm1 hm2
  have hI0:CntI w p1 p2 g1 g2 wc []:=CSt.congr hcs.out (fun _=>rfl) (fun _=>rfl)
  have htl:=tell_count p1 p2 CntG (CntI w p1 p2 g1 g2) (CntT g1 g2) w wc a c L HC.out hL (cnt_stays w p1 p2 g1 g2) (hears1 w p1 p2 g1 g2) (hears2 w p1 p2 g1 g2) (fun t _ hT=>gd_count hT) ⟨by decide,by decide⟩ hI0
  clear hI0 hcs HC
  go_wp2_with fail
  refine htl.mono ?_
  rintro e w1 ⟨hy,hno⟩
  clear htl
  by_cases hall:∀ t∈L,TokRight t
  ·obtain⟨rfl,hI⟩:=hy hall
   have HE:Hid (CSt w w1 p1 p2 g1 g2 (cntA L) (cntB L)):=by
    refine CSt.congr hI (fun i=>?_) (fun i=>?_)
    ·rw[cnt_app,cnt_one,← cnt_first L i]
     show _+(if i=256 then (1:Int) else 0)=_
     omega
    ·rw[cnt_app,show cnt true [(false,((256:Int),(0:Int),(0:Int)))] i=0 from cnt_none true _ i,← cnt_second L i]
     omega
   clear hI hy hno
   have c1:w1.cell? ⟨p1,0,none⟩=some (.slice (some ⟨g1,0,none⟩) 286 286):=(cell_of_block HE.out.b1 0).trans rfl
   have hA1:=(limit_answer (some ⟨g1,0,none⟩) 286 286 (cntA L) 15 w1 HE.out.o1.sl.came (by omega) (fun i _=>by have:=cntA_le hall hL i; exact wf_small _ (by omega) (by omega)) (wf_small _ (by omega) (by omega))).1 (limit_right (n:=286) (by omega) (fun i=>cntA_le hall hL i))
   go_wp2_with fail
   refine hA1.mono ?_
   rintro e w2 ⟨a1,cap1,rfl,hs1,hB2⟩
   clear hA1 c1
   obtain⟨k1,rfl,o1⟩:=sl_own hs1 (by omega)
   have HE2:=hid_of (HE.out.called hB2)
   have HO1:=hid_of o1
   have hk1:k1 < w2.heap.size:=o1.lt
   have hz1:=hB2.size
   have c2:w2.cell? ⟨p2,0,none⟩=some (.slice (some ⟨g2,0,none⟩) 30 30):=(cell_of_block HE2.out.b2 0).trans rfl
   have hA2:=(limit_answer (some ⟨g2,0,none⟩) 30 30 (cntB L) 15 w2 HE2.out.o2.sl.came (by omega) (fun i _=>by have:=cntB_le hL i; exact wf_small _ (by omega) (by omega)) (wf_small _ (by omega) (by omega))).1 (limit_right (n:=30) (by omega) (fun i=>cntB_le hL i))
   clear hs1 hB2 o1
   go_wp2_with fail
   refine hA2.mono ?_
   rintro e w3 ⟨a2,cap2,rfl,hs2,hB3⟩
   clear hA2 c2
   obtain⟨k2,rfl,o2⟩:=sl_own hs2 (by omega)
   have HO2:=hid_of o2
   have HO1':=hid_of (HO1.out.called hB3)
   have hk2:w2.heap.size≤k2:=o2.base_le
   have HB:Hid (Below w.heap.size w w3):=bnext HE2.out.bl hB3
   have hz2:=HE.out.bl.size
   clear hs2 hB3 o2
   go_wp2_with fail
   refine (implTrim _ 286 cap1 257 _ w3 HO1'.out.sl.came (by omega) (by omega) (iown_cap HO1'.out) (by omega)).mono ?_
   rintro e w4 ⟨rfl,rfl⟩
   go_wp2_with fail
   refine (implTrim _ 30 cap2 1 _ w4 HO2.out.sl.came (by omega) (by omega) (iown_cap HO2.out) (by omega)).mono ?_
   rintro e w5 ⟨rfl,rfl⟩
   go_wp2_with fail
   refine bodyPost_ret (v:=.tuple #[.slice (some ⟨k1,0,none⟩) (sizeA L) cap1,.slice (some ⟨k2,0,none⟩) (sizeB L) cap2,.bool true]) ?_ rfl ⟨fun _=>⟨_,_,_,_,rfl,(iown_cut (HO1'.out.mono hz2) (trimN_le _ _ _)).sl,(iown_cut (HO2.out.mono (Nat.le_trans hz2 hz1)) (trimN_le _ _ _)).sl,?_,HB.out⟩,fun h=>absurd hall h⟩
   ·simp[results,Tryz.results132,go_sem]
    exact⟨rfl,rfl⟩
   ·intro e
    cases e
    omega
  ·obtain⟨rfl,S,hI⟩:=hno hall
   have HB:Hid (Below w.heap.size w w1):=hI.bl
   clear hI hy hno
   go_wp2_with fail
   refine bodyPost_ret (v:=.tuple #[.slice none 0 0,.slice none 0 0,.bool false]) ?_ rfl ⟨fun h=>absurd h hall,fun _=>⟨rfl,HB.out⟩⟩
   simp[results,Tryz.results132,go_sem]
set_option maxHeartbeats 800000 in
theorem tokLen_answer:TokLenAnswer:=by
 intro a c L w hC hn
 by_cases hL:L.length≤12000
 ·refine⟨fun hR=>(tokLen_all a c L w hC hL).mono fun e w' h=>h.1 hR.2,fun hR=>(tokLen_all a c L w hC hL).mono fun e w' h=>h.2 fun q=>hR ⟨hL,q⟩⟩
 ·refine⟨fun hR=>absurd hR.1 hL,fun _=>?_⟩
  have d:decide ((12000:Int) < (L.length:Int))=true:=decide_eq_true (by omega)
  have d':decide (12000 < L.length)=true:=decide_eq_true (by omega)
  go_enter Tryz.func132,Tryz.ntmps132
  go_wp2_with fail
  refine bodyPost_ret (v:=.tuple #[.slice none 0 0,.slice none 0 0,.bool false]) ?_ rfl ⟨rfl,Below.refl _ _⟩
  simp[results,Tryz.results132,go_sem]
end Go.Proofs.YtklpiihnbokkkaaGreatDoor

namespace Go.Proofs.YtklpiihnbokkkaaGreatDoor
open Go.RowKit Go.Joins Go.Sort
def DCame (w:World) (a:Option Addr) (n:Nat) (F:Nat→Int×Int):Prop:=
 n=0∨∃ g off,a=some ⟨g,off,none⟩∧g < w.heap.size∧∀ j,j < n→w.cell? ⟨g,off+j * 2,none⟩=some (.int .i64 (F j).1)∧w.cell? ⟨g,off+j * 2+1,none⟩=some (.int .i64 (F j).2)
theorem DCame.called {w w':World} {a:Option Addr} {n:Nat} {F:Nat→Int×Int} (h:DCame w a n F) (hb:Below w.heap.size w w'):DCame w' a n F:=by
 rcases h with h | ⟨g,off,ha,hg,hc⟩
 ·exact .inl h
 ·exact .inr ⟨g,off,ha,Nat.lt_of_lt_of_le hg hb.size,fun j hj=>⟨(hb.cell (p:=⟨g,off+j * 2,none⟩) hg).trans (hc j hj).1,(hb.cell (p:=⟨g,off+j * 2+1,none⟩) hg).trans (hc j hj).2⟩⟩
theorem DCame.grown {w w':World} {a:Option Addr} {n B:Nat} {F:Nat→Int×Int} {row:Option Nat} (h:DCame w a n F) (hB:∀ g off,a=some ⟨g,off,none⟩→g < B) (hr:∀ k,row=some k→B≤k) (hg:w.grownBy w' row):DCame w' a n F:=by
 rcases h with h | ⟨g,off,ha,hlt,hc⟩
 ·exact .inl h
 ·have hne:some g≠row:=fun e=>by have h1:=hB g off ha; have h2:=hr g e.symm; omega
  have hb:=hg.block g hlt hne
  exact .inr ⟨g,off,ha,Nat.lt_of_lt_of_le hlt hg.size,fun j hj=>⟨(World.cell?_of_block (w:=w) hb).trans (hc j hj).1,(World.cell?_of_block (w:=w) hb).trans (hc j hj).2⟩⟩
def DOwn (w:World) (base g n:Nat) (F:Nat→Int×Int):Prop:=base≤g∧∃ cur,w.heap[g]?=some (.cells cur 165 (0,0))∧n * 2≤cur.size∧∀ j,j < n→cur[j * 2]?=some (.int .i64 (F j).1)∧cur[j * 2+1]?=some (.int .i64 (F j).2)
theorem DOwn.lt {w:World} {base g n:Nat} {F:Nat→Int×Int} (h:DOwn w base g n F):g < w.heap.size:=by
 obtain⟨_,cur,h2,_⟩:=h
 exact block_lt h2
theorem DOwn.keep {w w':World} {base g n:Nat} {F:Nat→Int×Int} (h:DOwn w base g n F) (hk:w'.heap[g]?=w.heap[g]?):DOwn w' base g n F:=by
 obtain⟨h1,cur,h2,h3⟩:=h
 exact⟨h1,cur,hk.trans h2,h3⟩
theorem DOwn.called {w w':World} {base g n:Nat} {F:Nat→Int×Int} (h:DOwn w base g n F) (hb:Below w.heap.size w w'):DOwn w' base g n F:=h.keep (hb.block g h.lt)
theorem DOwn.came {w:World} {base g n:Nat} {F:Nat→Int×Int} (h:DOwn w base g n F):DCame w (some ⟨g,0,none⟩) n F:=by
 refine .inr ⟨g,0,rfl,h.lt,fun j hj=>?_⟩
 obtain⟨_,cur,h2,h3,h4⟩:=h
 rw[Nat.zero_add,cell_of_block h2,cell_of_block h2]
 exact h4 j hj
theorem DOwn.free {w:World} {base g n:Nat} {F:Nat→Int×Int} (h:DOwn w base g n F) (k:Nat):w.frozen? ⟨g,k,none⟩=false:=by
 obtain⟨_,cur,h2,_⟩:=h
 simp[World.frozen?,h2]
def updD (F:Nat→Int×Int) (j:Nat) (x:Int×Int):Nat→Int×Int:=fun i=>if i=j then x else F i
theorem DOwn.set {w:World} {base g n:Nat} {F:Nat→Int×Int} (h:DOwn w base g n F) (j:Nat) (hj:j < n) (x y:Int):DOwn ((w.setCell ⟨g,j * 2,none⟩ (.int .i64 x)).setCell ⟨g,j * 2+1,none⟩ (.int .i64 y)) base g n (updD F j (x,y)):=by
 obtain⟨h1,cur,h2,h3,h4⟩:=h
 refine⟨h1,(cur.setIfInBounds (j * 2) (.int .i64 x)).setIfInBounds (j * 2+1) (.int .i64 y),?_,by simpa using h3,fun i hi=>?_⟩
 ·simp[World.setCell,Array.getElem?_modify,h2]
 ·obtain⟨k1,k2⟩:=h4 i hi
  unfold updD
  by_cases e:i=j
  ·subst e
   rw[if_pos rfl]
   refine⟨?_,?_⟩
   ·rw[Array.getElem?_setIfInBounds_ne (by omega),Array.getElem?_setIfInBounds_self_of_lt (by omega)]
   ·rw[Array.getElem?_setIfInBounds_self_of_lt (by simp; omega)]
  ·rw[if_neg e]
   refine⟨?_,?_⟩
   ·rw[Array.getElem?_setIfInBounds_ne (by omega),Array.getElem?_setIfInBounds_ne (by omega)]; exact k1
   ·rw[Array.getElem?_setIfInBounds_ne (by omega),Array.getElem?_setIfInBounds_ne (by omega)]; exact k2
theorem DOwn.congr {w:World} {base g n:Nat} {F G:Nat→Int×Int} (h:DOwn w base g n F) (e:∀ j,j < n→F j=G j):DOwn w base g n G:=by
 obtain⟨h1,cur,h2,h3,h4⟩:=h
 exact⟨h1,cur,h2,h3,fun j hj=>by rw [← e j hj]; exact h4 j hj⟩
def DSL (w:World) (base:Nat) (a:Option Addr) (n:Nat) (F:Nat→Int×Int):Prop:=n=0∨∃ g,a=some ⟨g,0,none⟩∧DOwn w base g n F
theorem DSL.came {w:World} {base:Nat} {a:Option Addr} {n:Nat} {F:Nat→Int×Int} (h:DSL w base a n F):DCame w a n F:=by
 rcases h with h | ⟨g,rfl,h⟩
 ·exact .inl h
 ·exact h.came
theorem DSL.called {w w':World} {base:Nat} {a:Option Addr} {n:Nat} {F:Nat→Int×Int} (h:DSL w base a n F) (hb:Below w.heap.size w w'):DSL w' base a n F:=by
 rcases h with h | ⟨g,rfl,h⟩
 ·exact .inl h
 ·exact .inr ⟨g,rfl,h.called hb⟩
theorem dsl_of_own {w:World} {S n:Nat} {v:Value} {L:List (Int×Int)} (h:w.ownsRow S 165 2 v n (dcells L)) (hn:n=L.length):∃ a c,v=.slice a L.length c∧DSL w S a L.length (fun j=>L.getD j (0,0)):=by
 subst hn
 rcases h.2 with ⟨rfl,h0⟩ | ⟨g,cap,cur,rfl,hb,hg,hc,hm,hs,ht⟩
 ·exact⟨none,0,by rw [h0],.inl h0⟩
 ·refine⟨_,cap,rfl,.inr ⟨g,rfl,hb,cur,hg,by omega,fun j hj=>?_⟩⟩
  have k1:=h.cellAt (j * 2) (by omega)
  have k2:=h.cellAt (j * 2+1) (by omega)
  rw[cell_of_block hg] at k1 k2
  rw[k1,k2]
  exact⟨dcells_get0 L j hj,dcells_get1 L j hj⟩
theorem DOwn.grown {w w':World} {base g n:Nat} {F:Nat→Int×Int} {row:Option Nat} (h:DOwn w base g n F) (hg:w.grownBy w' row) (hne:row≠some g):DOwn w' base g n F:=h.keep (hg.block g h.lt (Ne.symm hne))
end Go.Proofs.YtklpiihnbokkkaaGreatDoor

namespace Go.Proofs.YtklpiihnbokkkaaGreatDoor
open Go.RowKit Go.Joins Go.Sort CodeMath RunsMath
def RunsAnswer : Prop := ∀ (a : Option Addr) (n cap : Nat) (f : Nat → Int) (w : World), Came w a n f → n ≤ 1048576 → (∀ i, i < n → (Lit.int .i64 (f i)).wf = true) →
    (RunsRight f n → Calls Tryz.prog 174 #[.slice a n cap] w fun e w' => ∃ (a' : Option Addr) (cap' : Nat), e = .returned (.tuple #[.slice a' (rest f n 0).length cap', .bool true]) ∧ DSL w' w.heap.size a' (rest f n 0).length (fun j => (rest f n 0).getD j (0, 0)) ∧ (rest f n 0).length ≤ cap' ∧ Below w.heap.size w w') ∧
    (¬ RunsRight f n → Calls Tryz.prog 174 #[.slice a n cap] w fun e w' => ∃ (a' : Option Addr) (cap' : Nat), e = .returned (.tuple #[.slice a' 0 cap', .bool false]) ∧ Below w.heap.size w w')
def BitsAnswer:Prop:=∀ (x:Int) (w:World),(Lit.int .i64 x).wf=true→Calls Tryz.prog 177 #[.int .i64 x] w fun e w'=>e=.returned (.int .i64 ((bitsOf x:Nat):Int))∧∃ k os',w'=grow (w.drewN k) os'
theorem below_grow2 {w:World} (n:Nat) (os:Array Obj):Below w.heap.size w (grow (w.drewN n) os):=by
 refine⟨rfl,rfl,rfl,?_,fun k hk=>heap_grow_old (w.drewN n) os hk⟩
 rw[size_grow]
 show w.heap.size≤w.heap.size+os.size
 omega
end Go.Proofs.YtklpiihnbokkkaaGreatDoor

namespace Go.Proofs.YtklpiihnbokkkaaGreatDoor.RunsMath
theorem same_zero {f:Nat→Int} {n:Nat} {x:Int} {m i:Nat} (h:f i≠x):sameN f n x m i=0:=by
 cases m with
 | zero=>rfl
 | succ m=>
  unfold sameN
  rw[if_neg (fun q=>h q.2)]
theorem same_min (f:Nat→Int) (n:Nat) (x:Int):∀ m M i,m≤M→sameN f n x m i=min (sameN f n x M i) m
 | 0,M,i,_=>by simp [sameN]
 | m+1,0,i,h=>by omega
 | m+1,M+1,i,h=>by
  have e:=same_min f n x m M (i+1) (by omega)
  unfold sameN
  split
  ·omega
  ·omega
theorem same_full (f:Nat→Int) (n:Nat) (x:Int) (m i:Nat) (hi:i≤n):sameN f n x m i=min (sameN f n x n i) m:=by
 rcases Nat.le_total m n with h | h
 ·exact same_min f n x m n i h
 ·have h1:=same_min f n x n m i h
  have h2:=same_in f n x m i hi
  omega
theorem alike_pos {f:Nat→Int} {n i:Nat} (h:i < n):1≤sameN f n (f i) n i:=by
 cases n with
 | zero=>omega
 | succ n=>
  unfold sameN
  rw[if_pos ⟨h,rfl⟩]
  omega
theorem zeros_alike {f:Nat→Int} {n i:Nat} (h:i < n) (h0:f i=0):zerosAt f n i=min (sameN f n (f i) n i) 138:=by
 unfold zerosAt
 rw[same_full f n 0 138 i (by omega),h0]
theorem zeros_other {f:Nat→Int} {n i:Nat} (h0:f i≠0):zerosAt f n i=0:=same_zero h0
theorem sameAt_alike {f:Nat→Int} {n i:Nat} (h:i < n) (hi:0 < i) (h0:f (i - 1)=f i):sameAt f n i=min (sameN f n (f i) n i) 6:=by
 unfold sameAt
 rw[if_neg (by omega),same_full f n (f (i - 1)) 6 i (by omega),h0]
theorem sameAt_other {f:Nat→Int} {n i:Nat} (h0:f (i - 1)≠f i):sameAt f n i=0:=by
 unfold sameAt
 split
 ·rfl
 ·exact same_zero (fun e=>h0 e.symm)
theorem sameAt_first (f:Nat→Int) (n:Nat):sameAt f n 0=0:=rfl
section
variable {f:Nat→Int} {n i q:Nat}
theorem at_18 (h:i < n) (hq:q=sameN f n (f i) n i) (h0:f i=0) (h1:11≤q):runAt f n i=((18,((min q 138:Nat):Int) - 11),min q 138):=by
 have e:=zeros_alike h h0
 rw[← hq] at e
 unfold runAt
 rw[if_pos (by omega),e]
theorem at_17 (h:i < n) (hq:q=sameN f n (f i) n i) (h0:f i=0) (h1:¬ 11≤q) (h2:3≤q):runAt f n i=((17,(q:Int) - 3),q):=by
 have e:=zeros_alike h h0
 rw[← hq,Nat.min_eq_left (by omega)] at e
 unfold runAt
 rw[if_neg (by omega),if_pos (by omega),e]
theorem at_16 (h:i < n) (hq:q=sameN f n (f i) n i) (hi:0 < i) (h0:f i≠0) (he:f (i - 1)=f i) (h2:3≤q):runAt f n i=((16,((min q 6:Nat):Int) - 3),min q 6):=by
 have e:=zeros_other (n:=n) h0
 have e2:=sameAt_alike h hi he
 rw[← hq] at e2
 unfold runAt
 rw[if_neg (by omega),if_neg (by omega),if_pos (by omega),e2]
theorem at_x (h:i < n) (hq:q=sameN f n (f i) n i) (h1:f i=0→¬ 3≤q) (h2:¬ (0 < i∧f (i - 1)=f i∧3≤q)):runAt f n i=((f i,0),1):=by
 have ez:¬ 3≤zerosAt f n i:=by
  by_cases h0:f i=0
  ·have e:=zeros_alike h h0
   rw[← hq] at e
   have:=h1 h0
   omega
  ·rw[zeros_other h0]; omega
 have es:¬ 3≤sameAt f n i:=by
  by_cases hi:0 < i
  ·by_cases he:f (i - 1)=f i
   ·have e:=sameAt_alike h hi he
    rw[← hq] at e
    intro k
    exact h2 ⟨hi,he,by omega⟩
   ·rw[sameAt_other he]; omega
  ·obtain rfl:i=0:=by omega
   rw[sameAt_first]; omega
 unfold runAt
 rw[if_neg (by omega),if_neg ez,if_neg es]
end
end Go.Proofs.YtklpiihnbokkkaaGreatDoor.RunsMath
