/-
  Texts of the proof, put together.
-/
import Derived.Test.YtklpiihnbokkkaaGreatDoorFk45
namespace Go.Proofs.YtklpiihnbokkkaaGreatDoor
open Go.RowKit Go.Joins TokMath SearchMath
abbrev tokV (t:Tok):Value:=.agg #[.int .i64 t.1,.int .i64 t.2.1,.int .i64 t.2.2]
def TokW (w0 w:World) (v:Value) (L:List Tok):Prop:=w.ownsRow w0.heap.size 105 3 v L.length (tcells L)∧Below w0.heap.size w0 w
theorem TokW.called {w0 w w':World} {v:Value} {L:List Tok} (h:TokW w0 w v L) (hb:Below w.heap.size w w'):TokW w0 w' v L:=⟨tok_called h.1 hb,h.2.trans (hb.mono h.2.size)⟩
theorem TokW.app {w0 w w':World} {v v1:Value} {L:List Tok} {o:Obj} {t:Tok} (h:TokW w0 w v L) (hown:w'.ownsRow w0.heap.size 105 3 v1 (L ++ [t]).length (tcells (L ++ [t]))) (hg:(w.alloc o).grownBy w' v.ownBlock):TokW w0 w' v1 (L ++ [t]):=
 ⟨hown,(h.2.alloc h.2.size o).grown hg (Nat.le_trans h.2.size (by simp)) (fun k e=>(h.1.lt k e).1)⟩
theorem TokW.form {w0 w:World} {v:Value} {L:List Tok} (h:TokW w0 w v L):∃ a c,v=.slice a L.length c:=by
 obtain⟨a,c,e,_⟩:=tcame_of_own h.1 rfl
 exact⟨a,c,e⟩
def WayOut (L:List Tok) (w:World) (e:Ending) (w':World):Prop:=∃ (a:Option Addr) (cap:Nat),e=.returned (.slice a L.length cap)∧TSL w' w.heap.size a L.length (fun j=>L.getD j (0,0,0))∧L.length≤cap∧Below w.heap.size w w'
theorem step_max {y:Int} (h:0≤y) (t:Tok) (e:t.2.1=y):max 1 y=(sizeT t:Nat):=by
 unfold sizeT
 rw[e]
 split
 ·omega
 ·omega
set_option maxHeartbeats 3200000 in
theorem walk_bound (p:Nat) ( s:ByteArray) (C:Nat→Tok) (w:World) (h0:w.cell? ⟨p,0,none⟩=some (.string s)) (hp:p < w.heap.size) (hs:s.size≤2600) (hC:∀ i,i < s.size→Fine (txt s) s.size i (C i))
  (hst:∀ w',Below w.heap.size w w'→∀ i,i < s.size→Calls Tryz.prog 81 #[.pointer (some ⟨p,0,none⟩),.int .i64 (i:Int)] w' fun e w2=>e=.returned (tokV (C i))∧Below w'.heap.size w' w2):
  Calls Tryz.prog 80 #[.pointer (some ⟨p,0,none⟩),.func (.func 81) #[.pointer (some ⟨p,0,none⟩)] #[]] w (WayOut (wayL C s.size 0) w):=by
 have HST:=hid_of hst
 have HC:=hid_of hC
 have HSZ:Hid (∀ i,i < s.size→1≤sizeT (C i)):=fun i hi=>(fine_size (hC i hi) hi).1
 have H0:Hid (TokW w w (.slice none 0 0) []∧[] ++ wayL C s.size 0=wayL C s.size 0):=⟨⟨World.ownsRow_nil _ _ _ _,Below.refl _ _⟩,rfl⟩
 clear hst hC
 go_enter Tryz.func80,Tryz.ntmps80
 go_wp2_with fail
 go_loopg [5,6] (s.size+1) (fun gk v y w'=>∃ (i n cp:Nat) (a:Option Addr) (L:List Tok),v=.slice a n cp∧i≤s.size∧n≤i∧y=.int .i64 i∧s.size - i≤gk∧Hid (n=L.length)∧Hid (TokW w w' (.slice a n cp) L∧L ++ wayL C s.size i=wayL C s.size 0))
 case atStart=>exact⟨0,0,0,none,[],rfl,Nat.zero_le _,Nat.le_refl _,rfl,by omega,rfl,H0⟩
 case round=>
  clear H0
  obtain⟨i,n,cp,a,L,rfl,hi,hni,rfl,hgk,HNL,hS⟩:=hrel
  have c0:wr.cell? ⟨p,0,none⟩=some (.string s):=(hS.out.1.2.cell (p:=⟨p,0,none⟩) hp).trans h0
  have hpl:p < wr.heap.size:=Nat.lt_of_lt_of_le hp hS.out.1.2.size
  by_cases hlt:i < s.size
  ·have dl:decide ((i:Int) < (s.size:Int))=true:=decide_eq_true (by omega)
   have hstep:=HST.out wr hS.out.1.2 i hlt
   have HSt:=hid_of (way_step HSZ.out hlt)
   have hfs:=fine_size (HC.out i hlt) hlt
   have hpos:0≤(C i).2.1:=by
    rcases HC.out i hlt with e | ⟨k,d,e,_⟩
    ·rw[e]
     exact Int.le_refl _
    ·rw[e]
     show (0:Int)≤(k:Int)
     omega
   have hmx:=step_max hpos (C i) rfl
   generalize C i=T at hstep HSt hfs hpos hmx
   generalize sizeT T=z at HSt hfs hmx
   obtain⟨x,y,q⟩:=T
   have hmx':max 1 y=(z:Nat):=hmx
   have hss:=fun w=>stepSize_any x y q w
   rw[hmx'] at hss
   clear hmx hmx' hpos
   go_wp2_with fail
   refine hstep.mono ?_
   rintro e w2 ⟨rfl,hB2⟩
   clear hstep c0
   have hS1:=hS.out.1.called hB2
   have HNE:Hid (∀ k,(Value.slice a n cp).ownBlock=some k→k < w2.heap.size):=fun k e=>(hS1.1.lt k e).2
   have HS2:Hid (TokW w (w2.alloc (.cells #[.int .i64 x,.int .i64 y,.int .i64 q] 105)) (.slice a n cp) L):=hS1.called (bstart _ _)
   have hz2:w.heap.size≤w2.heap.size:=Nat.le_trans hS.out.1.2.size hB2.size
   have HLN:Hid (L.length≤i):=by
    have:=HNL.out
    show L.length≤i
    omega
   clear hB2 hS1
   go_wp2_with (at_builtin; refine toks_append (S:=w.heap.size) (xs:=L) (ys:=[(x,y,q)]) rfl _ _ rfl rfl (World.ownsRow.alloc HS2.out.1 _) ⟨w2.heap.size+1,0,none⟩ 1 1 rfl rfl (news_tk (w2.alloc _) x y q _ (by simp)) (by have:=HLN.out; simp only [List.length_cons,List.length_nil]; omega) (by simp; omega) ?_)
   intro v1 w5 y1 y2
   have hN:=HS2.out.app (t:=(x,y,q)) (by simpa using y1) y2
   obtain⟨a1,cp1,hv1⟩:=hN.form
   have hzl:w2.heap.size < w5.heap.size:=Nat.lt_of_lt_of_le (by simp; omega) y2.size
   have hkp:w5.heap[w2.heap.size]?=some (.cells #[.int .i64 x,.int .i64 y,.int .i64 q] 105 (0,0)):=by
    refine (y2.block w2.heap.size (by simp; omega) (fun e=>?_)).trans (((bstart (w2.alloc _) _).block w2.heap.size (by simp)).trans (heap_alloc_new w2 _))
    have:=HNE.out w2.heap.size (by simpa using e.symm)
    omega
   have x0:w5.cell? ⟨w2.heap.size,0,none⟩=some (.int .i64 x):=(cell_of_block hkp 0).trans rfl
   have x1:w5.cell? ⟨w2.heap.size,1,none⟩=some (.int .i64 y):=(cell_of_block hkp 1).trans rfl
   have x2:w5.cell? ⟨w2.heap.size,2,none⟩=some (.int .i64 q):=(cell_of_block hkp 2).trans rfl
   rw[List.length_append,List.length_singleton,← HNL.out] at hv1
   subst hv1
   have HN:=hid_of hN
   clear y1 y2 hN hkp HS2
   go_wp2_with fail
   refine (hss _).mono ?_
   rintro e w6 ⟨rfl,hB6⟩
   have HNX:Hid (TokW w w6 (.slice a1 (n+1) cp1) (L ++ [(x,y,q)])∧L ++ [(x,y,q)] ++ wayL C s.size (i+z)=wayL C s.size 0):=by
    refine⟨HN.out.called hB6,?_⟩
    rw[← hS.out.2,HSt.out,List.append_assoc]
    rfl
   have HNM:Hid (n+1=(L ++ [(x,y,q)]).length):=by
    show n+1=(L ++ [(x,y,q)]).length
    rw[List.length_append,List.length_singleton,← HNL.out]
   obtain⟨hz1,hz3⟩:=hfs
   clear hB6 hss x0 x1 x2 hS HN
   go_wp2_with fail
   go_roundg (s.size - (i+z))
   case measure=>omega
   case rel=>exact⟨i+z,n+1,cp1,a1,_,rfl,by omega,by omega,by go_num,Nat.le_refl _,HNM,HNX⟩
  ·obtain rfl:i=s.size:=by omega
   have dl:decide ((s.size:Int) < (s.size:Int))=false:=decide_eq_false (by omega)
   have HZ:Hid (TokW w wr (.slice a n cp) (wayL C s.size 0)∧n=(wayL C s.size 0).length):=by
    have h:=hS.out.2
    rw[way_end (Nat.le_refl _),List.append_nil] at h
    rw[← h]
    exact⟨hS.out.1,HNL.out⟩
   go_wp2_with fail
   go_ret
   obtain⟨h1,h2⟩:=HZ.out
   obtain⟨a',c',e,hc,ht⟩:=tsl_of_own h1.1 rfl
   cases e
   exact⟨a,cp,rfl,ht,hc,h1.2⟩
set_option maxHeartbeats 3200000 in
theorem walk_lazy (p:Nat) (qb:Nat) ( s:ByteArray) (C:Nat→Tok) (w:World) (h0:w.cell? ⟨p,0,none⟩=some (.string s)) (hp:p < w.heap.size) (hs:s.size≤2600) (hC:∀ i,i < s.size→Fine (txt s) s.size i (C i))
  (hst:∀ w',Below w.heap.size w w'→∀ i,i < s.size→Calls Tryz.prog 84 #[.int .i64 (i:Int),.pointer (some ⟨qb,0,none⟩)] w' fun e w2=>e=.returned (tokV (C i))∧Below w'.heap.size w' w2):
  Calls Tryz.prog 80 #[.pointer (some ⟨p,0,none⟩),.func (.func 84) #[] #[.pointer (some ⟨qb,0,none⟩)]] w (WayOut (wayL C s.size 0) w):=by
 have HST:=hid_of hst
 have HC:=hid_of hC
 have HSZ:Hid (∀ i,i < s.size→1≤sizeT (C i)):=fun i hi=>(fine_size (hC i hi) hi).1
 have H0:Hid (TokW w w (.slice none 0 0) []∧[] ++ wayL C s.size 0=wayL C s.size 0):=⟨⟨World.ownsRow_nil _ _ _ _,Below.refl _ _⟩,rfl⟩
 clear hst hC
 go_enter Tryz.func80,Tryz.ntmps80
 go_wp2_with fail
 go_loopg [5,6] (s.size+1) (fun gk v y w'=>∃ (i n cp:Nat) (a:Option Addr) (L:List Tok),v=.slice a n cp∧i≤s.size∧n≤i∧y=.int .i64 i∧s.size - i≤gk∧Hid (n=L.length)∧Hid (TokW w w' (.slice a n cp) L∧L ++ wayL C s.size i=wayL C s.size 0))
 case atStart=>exact⟨0,0,0,none,[],rfl,Nat.zero_le _,Nat.le_refl _,rfl,by omega,rfl,H0⟩
 case round=>
  clear H0
  obtain⟨i,n,cp,a,L,rfl,hi,hni,rfl,hgk,HNL,hS⟩:=hrel
  have c0:wr.cell? ⟨p,0,none⟩=some (.string s):=(hS.out.1.2.cell (p:=⟨p,0,none⟩) hp).trans h0
  have hpl:p < wr.heap.size:=Nat.lt_of_lt_of_le hp hS.out.1.2.size
  by_cases hlt:i < s.size
  ·have dl:decide ((i:Int) < (s.size:Int))=true:=decide_eq_true (by omega)
   have hstep:=HST.out wr hS.out.1.2 i hlt
   have HSt:=hid_of (way_step HSZ.out hlt)
   have hfs:=fine_size (HC.out i hlt) hlt
   have hpos:0≤(C i).2.1:=by
    rcases HC.out i hlt with e | ⟨k,d,e,_⟩
    ·rw[e]
     exact Int.le_refl _
    ·rw[e]
     show (0:Int)≤(k:Int)
     omega
   have hmx:=step_max hpos (C i) rfl
   generalize C i=T at hstep HSt hfs hpos hmx
   generalize sizeT T=z at HSt hfs hmx
   obtain⟨x,y,q⟩:=T
   have hmx':max 1 y=(z:Nat):=hmx
   have hss:=fun w=>stepSize_any x y q w
   rw[hmx'] at hss
   clear hmx hmx' hpos
   go_wp2_with fail
   refine hstep.mono ?_
   rintro e w2 ⟨rfl,hB2⟩
   clear hstep c0
   have hS1:=hS.out.1.called hB2
   have HNE:Hid (∀ k,(Value.slice a n cp).ownBlock=some k→k < w2.heap.size):=fun k e=>(hS1.1.lt k e).2
   have HS2:Hid (TokW w (w2.alloc (.cells #[.int .i64 x,.int .i64 y,.int .i64 q] 105)) (.slice a n cp) L):=hS1.called (bstart _ _)
   have hz2:w.heap.size≤w2.heap.size:=Nat.le_trans hS.out.1.2.size hB2.size
   have HLN:Hid (L.length≤i):=by
    have:=HNL.out
    show L.length≤i
    omega
   clear hB2 hS1
   go_wp2_with (at_builtin; refine toks_append (S:=w.heap.size) (xs:=L) (ys:=[(x,y,q)]) rfl _ _ rfl rfl (World.ownsRow.alloc HS2.out.1 _) ⟨w2.heap.size+1,0,none⟩ 1 1 rfl rfl (news_tk (w2.alloc _) x y q _ (by simp)) (by have:=HLN.out; simp only [List.length_cons,List.length_nil]; omega) (by simp; omega) ?_)
   intro v1 w5 y1 y2
   have hN:=HS2.out.app (t:=(x,y,q)) (by simpa using y1) y2
   obtain⟨a1,cp1,hv1⟩:=hN.form
   have hzl:w2.heap.size < w5.heap.size:=Nat.lt_of_lt_of_le (by simp; omega) y2.size
   have hkp:w5.heap[w2.heap.size]?=some (.cells #[.int .i64 x,.int .i64 y,.int .i64 q] 105 (0,0)):=by
    refine (y2.block w2.heap.size (by simp; omega) (fun e=>?_)).trans (((bstart (w2.alloc _) _).block w2.heap.size (by simp)).trans (heap_alloc_new w2 _))
    have:=HNE.out w2.heap.size (by simpa using e.symm)
    omega
   have x0:w5.cell? ⟨w2.heap.size,0,none⟩=some (.int .i64 x):=(cell_of_block hkp 0).trans rfl
   have x1:w5.cell? ⟨w2.heap.size,1,none⟩=some (.int .i64 y):=(cell_of_block hkp 1).trans rfl
   have x2:w5.cell? ⟨w2.heap.size,2,none⟩=some (.int .i64 q):=(cell_of_block hkp 2).trans rfl
   rw[List.length_append,List.length_singleton,← HNL.out] at hv1
   subst hv1
   have HN:=hid_of hN
   clear y1 y2 hN hkp HS2
   go_wp2_with fail
   refine (hss _).mono ?_
   rintro e w6 ⟨rfl,hB6⟩
   have HNX:Hid (TokW w w6 (.slice a1 (n+1) cp1) (L ++ [(x,y,q)])∧L ++ [(x,y,q)] ++ wayL C s.size (i+z)=wayL C s.size 0):=by
    refine⟨HN.out.called hB6,?_⟩
    rw[← hS.out.2,HSt.out,List.append_assoc]
    rfl
   have HNM:Hid (n+1=(L ++ [(x,y,q)]).length):=by
    show n+1=(L ++ [(x,y,q)]).length
    rw[List.length_append,List.length_singleton,← HNL.out]
   obtain⟨hz1,hz3⟩:=hfs
   clear hB6 hss x0 x1 x2 hS HN
   go_wp2_with fail
   go_roundg (s.size - (i+z))
   case measure=>omega
   case rel=>exact⟨i+z,n+1,cp1,a1,_,rfl,by omega,by omega,by go_num,Nat.le_refl _,HNM,HNX⟩
  ·obtain rfl:i=s.size:=by omega
   have dl:decide ((s.size:Int) < (s.size:Int))=false:=decide_eq_false (by omega)
   have HZ:Hid (TokW w wr (.slice a n cp) (wayL C s.size 0)∧n=(wayL C s.size 0).length):=by
    have h:=hS.out.2
    rw[way_end (Nat.le_refl _),List.append_nil] at h
    rw[← h]
    exact⟨hS.out.1,HNL.out⟩
   go_wp2_with fail
   go_ret
   obtain⟨h1,h2⟩:=HZ.out
   obtain⟨a',c',e,hc,ht⟩:=tsl_of_own h1.1 rfl
   cases e
   exact⟨a,cp,rfl,ht,hc,h1.2⟩
set_option maxHeartbeats 3200000 in
theorem walk_cheap (p:Nat) (qb:Nat) ( s:ByteArray) (C:Nat→Tok) (w:World) (h0:w.cell? ⟨p,0,none⟩=some (.string s)) (hp:p < w.heap.size) (hs:s.size≤2600) (hC:∀ i,i < s.size→Fine (txt s) s.size i (C i))
  (hst:∀ w',Below w.heap.size w w'→∀ i,i < s.size→Calls Tryz.prog 137 #[.int .i64 (i:Int),.pointer (some ⟨qb,0,none⟩)] w' fun e w2=>e=.returned (tokV (C i))∧Below w'.heap.size w' w2):
  Calls Tryz.prog 80 #[.pointer (some ⟨p,0,none⟩),.func (.func 137) #[] #[.pointer (some ⟨qb,0,none⟩)]] w (WayOut (wayL C s.size 0) w):=by
 have HST:=hid_of hst
 have HC:=hid_of hC
 have HSZ:Hid (∀ i,i < s.size→1≤sizeT (C i)):=fun i hi=>(fine_size (hC i hi) hi).1
 have H0:Hid (TokW w w (.slice none 0 0) []∧[] ++ wayL C s.size 0=wayL C s.size 0):=⟨⟨World.ownsRow_nil _ _ _ _,Below.refl _ _⟩,rfl⟩
 clear hst hC
 go_enter Tryz.func80,Tryz.ntmps80
 go_wp2_with fail
 go_loopg [5,6] (s.size+1) (fun gk v y w'=>∃ (i n cp:Nat) (a:Option Addr) (L:List Tok),v=.slice a n cp∧i≤s.size∧n≤i∧y=.int .i64 i∧s.size - i≤gk∧Hid (n=L.length)∧Hid (TokW w w' (.slice a n cp) L∧L ++ wayL C s.size i=wayL C s.size 0))
 case atStart=>exact⟨0,0,0,none,[],rfl,Nat.zero_le _,Nat.le_refl _,rfl,by omega,rfl,H0⟩
 case round=>
  clear H0
  obtain⟨i,n,cp,a,L,rfl,hi,hni,rfl,hgk,HNL,hS⟩:=hrel
  have c0:wr.cell? ⟨p,0,none⟩=some (.string s):=(hS.out.1.2.cell (p:=⟨p,0,none⟩) hp).trans h0
  have hpl:p < wr.heap.size:=Nat.lt_of_lt_of_le hp hS.out.1.2.size
  by_cases hlt:i < s.size
  ·have dl:decide ((i:Int) < (s.size:Int))=true:=decide_eq_true (by omega)
   have hstep:=HST.out wr hS.out.1.2 i hlt
   have HSt:=hid_of (way_step HSZ.out hlt)
   have hfs:=fine_size (HC.out i hlt) hlt
   have hpos:0≤(C i).2.1:=by
    rcases HC.out i hlt with e | ⟨k,d,e,_⟩
    ·rw[e]
     exact Int.le_refl _
    ·rw[e]
     show (0:Int)≤(k:Int)
     omega
   have hmx:=step_max hpos (C i) rfl
   generalize C i=T at hstep HSt hfs hpos hmx
   generalize sizeT T=z at HSt hfs hmx
   obtain⟨x,y,q⟩:=T
   have hmx':max 1 y=(z:Nat):=hmx
   have hss:=fun w=>stepSize_any x y q w
   rw[hmx'] at hss
   clear hmx hmx' hpos
   go_wp2_with fail
   refine hstep.mono ?_
   rintro e w2 ⟨rfl,hB2⟩
   clear hstep c0
   have hS1:=hS.out.1.called hB2
   have HNE:Hid (∀ k,(Value.slice a n cp).ownBlock=some k→k < w2.heap.size):=fun k e=>(hS1.1.lt k e).2
   have HS2:Hid (TokW w (w2.alloc (.cells #[.int .i64 x,.int .i64 y,.int .i64 q] 105)) (.slice a n cp) L):=hS1.called (bstart _ _)
   have hz2:w.heap.size≤w2.heap.size:=Nat.le_trans hS.out.1.2.size hB2.size
   have HLN:Hid (L.length≤i):=by
    have:=HNL.out
    show L.length≤i
    omega
   clear hB2 hS1
   go_wp2_with (at_builtin; refine toks_append (S:=w.heap.size) (xs:=L) (ys:=[(x,y,q)]) rfl _ _ rfl rfl (World.ownsRow.alloc HS2.out.1 _) ⟨w2.heap.size+1,0,none⟩ 1 1 rfl rfl (news_tk (w2.alloc _) x y q _ (by simp)) (by have:=HLN.out; simp only [List.length_cons,List.length_nil]; omega) (by simp; omega) ?_)
   intro v1 w5 y1 y2
   have hN:=HS2.out.app (t:=(x,y,q)) (by simpa using y1) y2
   obtain⟨a1,cp1,hv1⟩:=hN.form
   have hzl:w2.heap.size < w5.heap.size:=Nat.lt_of_lt_of_le (by simp; omega) y2.size
   have hkp:w5.heap[w2.heap.size]?=some (.cells #[.int .i64 x,.int .i64 y,.int .i64 q] 105 (0,0)):=by
    refine (y2.block w2.heap.size (by simp; omega) (fun e=>?_)).trans (((bstart (w2.alloc _) _).block w2.heap.size (by simp)).trans (heap_alloc_new w2 _))
    have:=HNE.out w2.heap.size (by simpa using e.symm)
    omega
   have x0:w5.cell? ⟨w2.heap.size,0,none⟩=some (.int .i64 x):=(cell_of_block hkp 0).trans rfl
   have x1:w5.cell? ⟨w2.heap.size,1,none⟩=some (.int .i64 y):=(cell_of_block hkp 1).trans rfl
   have x2:w5.cell? ⟨w2.heap.size,2,none⟩=some (.int .i64 q):=(cell_of_block hkp 2).trans rfl
   rw[List.length_append,List.length_singleton,← HNL.out] at hv1
   subst hv1
   have HN:=hid_of hN
   clear y1 y2 hN hkp HS2
   go_wp2_with fail
   refine (hss _).mono ?_
   rintro e w6 ⟨rfl,hB6⟩
   have HNX:Hid (TokW w w6 (.slice a1 (n+1) cp1) (L ++ [(x,y,q)])∧L ++ [(x,y,q)] ++ wayL C s.size (i+z)=wayL C s.size 0):=by
    refine⟨HN.out.called hB6,?_⟩
    rw[← hS.out.2,HSt.out,List.append_assoc]
    rfl
   have HNM:Hid (n+1=(L ++ [(x,y,q)]).length):=by
    show n+1=(L ++ [(x,y,q)]).length
    rw[List.length_append,List.length_singleton,← HNL.out]
   obtain⟨hz1,hz3⟩:=hfs
   clear hB6 hss x0 x1 x2 hS HN
   go_wp2_with fail
   go_roundg (s.size - (i+z))
   case measure=>omega
   case rel=>exact⟨i+z,n+1,cp1,a1,_,rfl,by omega,by omega,by go_num,Nat.le_refl _,HNM,HNX⟩
  ·obtain rfl:i=s.size:=by omega
   have dl:decide ((s.size:Int) < (s.size:Int))=false:=decide_eq_false (by omega)
   have HZ:Hid (TokW w wr (.slice a n cp) (wayL C s.size 0)∧n=(wayL C s.size 0).length):=by
    have h:=hS.out.2
    rw[way_end (Nat.le_refl _),List.append_nil] at h
    rw[← h]
    exact⟨hS.out.1,HNL.out⟩
   go_wp2_with fail
   go_ret
   obtain⟨h1,h2⟩:=HZ.out
   obtain⟨a',c',e,hc,ht⟩:=tsl_of_own h1.1 rfl
   cases e
   exact⟨a,cp,rfl,ht,hc,h1.2⟩
end Go.Proofs.YtklpiihnbokkkaaGreatDoor
namespace Go.Proofs.YtklpiihnbokkkaaGreatDoor
open Go.RowKit Go.Joins TokMath SearchMath
set_option maxRecDepth 100000 in
set_option maxHeartbeats 1600000 in
theorem best_out (p:Nat) (s:ByteArray) (c:Nat) (t:Int) (w:World) (hM:Mt w p s c) (_:s.size≤2600) (ht:t < 0∨((s.size - 2:Nat):Int)≤t):
  Calls Tryz.prog 85 #[.pointer (some ⟨p,0,none⟩),.int .i64 t] w fun e w'=>e=.returned (.agg #[.int .i64 0,.int .i64 0,.int .i64 0])∧Below w.heap.size w w':=by
 obtain⟨M,a,cap,G,⟨m0,m1,m2,m3,hp⟩,hcap,hCa,hKM,hL⟩:=hM
 clear hCa hKM hL
 obtain⟨W1,hW1⟩:∃ W1,W1=((w.alloc (.cells #[.pointer (some ⟨p,0,none⟩)] 120)).alloc (.cells #[.int .i64 t] 3)).alloc (.cells #[.int .i64 0,.int .i64 0,.int .i64 0] 105):=⟨_,rfl⟩
 obtain⟨b0,b1,gr,hB1⟩:W1.cell? ⟨w.heap.size,0,none⟩=some (.pointer (some ⟨p,0,none⟩))∧W1.cell? ⟨w.heap.size+1,0,none⟩=some (.int .i64 t)∧W1.heap[w.heap.size+1+1]?=some (.cells #[.int .i64 0,.int .i64 0,.int .i64 0] 105 (0,0))∧Below w.heap.size w W1:=by
  rw[hW1]
  refine⟨((bal (bstart _ _) _).cell (p:=⟨w.heap.size,0,none⟩) (by simp)).trans (by simp),((bstart _ _).cell (p:=⟨w.heap.size+1,0,none⟩) (by simp)).trans (by simp),?_,bal (bal (bstart _ _) _) _⟩
  have:=heap_alloc_new ((w.alloc (.cells #[.pointer (some ⟨p,0,none⟩)] 120)).alloc (.cells #[.int .i64 t] 3)) (.cells #[.int .i64 0,.int .i64 0,.int .i64 0] 105)
  rw[World.size_alloc,World.size_alloc] at this
  exact this
 have HW1:=hid_of hW1
 have n3:=(hB1.cell (p:=⟨p,3,none⟩) hp).trans m3
 have r0:W1.cell? ⟨w.heap.size+1+1,0,none⟩=some (.int .i64 0):=(cell_of_block gr 0).trans rfl
 have r1:W1.cell? ⟨w.heap.size+1+1,1,none⟩=some (.int .i64 0):=(cell_of_block gr 1).trans rfl
 have r2:W1.cell? ⟨w.heap.size+1+1,2,none⟩=some (.int .i64 0):=(cell_of_block gr 2).trans rfl
 have rf:∀ q,W1.frozen? ⟨w.heap.size+1+1,q,none⟩=false:=fun q=>by simp [World.frozen?,gr]
 have HEND:Hid (∀ nq,Below w.heap.size w ((((W1.drewN nq).setCell ⟨w.heap.size+1+1,0,none⟩ (.int .i64 0)).setCell ⟨w.heap.size+1+1,1,none⟩ (.int .i64 0)).setCell ⟨w.heap.size+1+1,2,none⟩ (.int .i64 0))):=fun nq=>three_below (bdraws hB1 nq) (by omega) _ _ _
 clear hW1 gr hB1 m0 m1 m2 m3
 by_cases h0:t < 0
 ·have d0:decide (t < 0)=true:=decide_eq_true h0
  go_enter Tryz.func85,Tryz.ntmps85
  go_wp2_with fail
  rw[← HW1.out]
  clear HW1
  go_quiet (fail)
  go_wp2_with fail
  exact bodyPost_ret (v:=.agg #[.int .i64 0,.int .i64 0,.int .i64 0]) (by simp [results,Tryz.results85,go_sem,r0,r1,r2]) rfl ⟨rfl,HEND.out _⟩
 ·have d0:decide (t < 0)=false:=decide_eq_false h0
  have d1:decide (((s.size - 2:Nat):Int)≤t)=true:=decide_eq_true (by omega)
  have h1:((s.size - 2:Nat):Int)≤t:=by omega
  go_enter Tryz.func85,Tryz.ntmps85
  go_wp2_with fail
  rw[← HW1.out]
  clear HW1
  go_quiet (fail)
  go_wp2_with fail
  exact bodyPost_ret (v:=.agg #[.int .i64 0,.int .i64 0,.int .i64 0]) (by simp [results,Tryz.results85,go_sem,r0,r1,r2]) rfl ⟨rfl,HEND.out _⟩
theorem best_any (p:Nat) (s:ByteArray) (c t:Nat) (w:World) (hM:Mt w p s c) (hs:s.size≤2600) (hc1:1≤c) (hc2:c≤64):
  Calls Tryz.prog 85 #[.pointer (some ⟨p,0,none⟩),.int .i64 (t:Int)] w fun e w'=>e=.returned (.agg #[.int .i64 0,.int .i64 (bestM (txt s) s.size t c).1,.int .i64 (bestM (txt s) s.size t c).2])∧Below w.heap.size w w':=by
 rcases Nat.lt_or_ge (t+2) s.size with h | h
 ·exact best_in p s c t w hM hs hc1 hc2 h
 ·rw[best_none h]
  exact best_out p s c t w hM hs (.inr (by omega))
set_option maxHeartbeats 1600000 in
theorem bestOrByte_any (p:Nat) (s:ByteArray) (c t:Nat) (w:World) (hM:Mt w p s c) (hs:s.size≤2600) (hc1:1≤c) (hc2:c≤64) (ht:t < s.size):
  Calls Tryz.prog 81 #[.pointer (some ⟨p,0,none⟩),.int .i64 (t:Int)] w fun e w'=>e=.returned (tokV (greedyC (txt s) s.size c t))∧Below w.heap.size w w':=by
 obtain⟨W1,hW1⟩:∃ W1,W1=w.alloc (.cells #[.int .i64 0,.int .i64 0,.int .i64 0] 105):=⟨_,rfl⟩
 have gr:W1.heap[w.heap.size]?=some (.cells #[.int .i64 0,.int .i64 0,.int .i64 0] 105 (0,0)):=by rw [hW1]; exact heap_alloc_new _ _
 have hB1:Below w.heap.size w W1:=by rw [hW1]; exact bstart _ _
 have hb:=best_any p s c t W1 (hM.called hB1) hs hc1 hc2
 have HM:=hid_of hM
 have HG:Hid (greedyC (txt s) s.size c t=if (bestM (txt s) s.size t c).1=0 then ((txt s t:Int),0,0) else (0,((bestM (txt s) s.size t c).1:Int),((bestM (txt s) s.size t c).2:Int))):=rfl
 generalize bestM (txt s) s.size t c=P at hb HG
 obtain⟨n,d⟩:=P
 have HW1:=hid_of hW1
 have HGR:=hid_of gr
 have HB1:=hid_of hB1
 clear hM hW1 gr hB1
 go_enter Tryz.func81,Tryz.ntmps81
 go_wp2_with fail
 rw[← HW1.out]
 refine hb.mono ?_
 rintro e w2 ⟨rfl,hB2⟩
 clear hb
 have hgr2:∀ o,(w2.alloc o).heap[w.heap.size]?=some (.cells #[.int .i64 0,.int .i64 0,.int .i64 0] 105 (0,0)):=fun o=>((bstart w2 o).block _ (Nat.lt_of_lt_of_le (block_lt HGR.out) hB2.size)).trans ((hB2.block _ (block_lt HGR.out)).trans HGR.out)
 have r0:∀ o,(w2.alloc o).cell? ⟨w.heap.size,0,none⟩=some (.int .i64 0):=fun o=>(cell_of_block (hgr2 o) 0).trans rfl
 have r1:∀ o,(w2.alloc o).cell? ⟨w.heap.size,1,none⟩=some (.int .i64 0):=fun o=>(cell_of_block (hgr2 o) 1).trans rfl
 have r2:∀ o,(w2.alloc o).cell? ⟨w.heap.size,2,none⟩=some (.int .i64 0):=fun o=>(cell_of_block (hgr2 o) 2).trans rfl
 have rf:∀ o q,(w2.alloc o).frozen? ⟨w.heap.size,q,none⟩=false:=fun o q=>by simp [World.frozen?,hgr2 o]
 have HB2:Hid (Below w.heap.size w w2):=bnext HB1.out hB2
 have HGR2:=hid_of hgr2
 clear hgr2 hB2
 by_cases hn:n=0
 ·subst hn
  have HT:Hid (greedyC (txt s) s.size c t=((txt s t:Int),0,0)):=by
   show greedyC (txt s) s.size c t=((txt s t:Int),0,0)
   rw[HG.out]
   rfl
  have hby:=fun o=>byteAt_any p s t (w2.alloc o) ((HM.out.called (bal HB2.out o)).text).1 ((HM.out.called (bal HB2.out o)).text).2 ht (by omega)
  go_wp2_with fail
  refine (hby _).mono ?_
  rintro e w3 ⟨rfl,hB3⟩
  clear hby
  have hl:=block_lt (HGR2.out (.cells #[.int .i64 0,.int .i64 0,.int .i64 (d:Int)] 105))
  have hg3:=(hB3.block _ hl).trans (HGR2.out _)
  have q0:w3.cell? ⟨w.heap.size,0,none⟩=some (.int .i64 0):=(cell_of_block hg3 0).trans rfl
  have q1:w3.cell? ⟨w.heap.size,1,none⟩=some (.int .i64 0):=(cell_of_block hg3 1).trans rfl
  have q2:w3.cell? ⟨w.heap.size,2,none⟩=some (.int .i64 0):=(cell_of_block hg3 2).trans rfl
  have qf:∀ q,w3.frozen? ⟨w.heap.size,q,none⟩=false:=fun q=>by simp [World.frozen?,hg3]
  have HEND:Hid (∀ a b e,Below w.heap.size w (((w3.setCell ⟨w.heap.size,0,none⟩ a).setCell ⟨w.heap.size,1,none⟩ b).setCell ⟨w.heap.size,2,none⟩ e)):=fun a b e=>three_below (bnext (bal HB2.out _) hB3) (Nat.le_refl _) _ _ _
  clear r0 r1 r2 rf hB3 hl hg3
  go_wp2_with fail
  exact bodyPost_ret (v:=.agg #[.int .i64 (txt s t:Nat),.int .i64 0,.int .i64 0]) (by simp [results,Tryz.results81,go_sem,q0,q1,q2]) rfl ⟨by rw [HT.out],HEND.out _ _ _⟩
 ·have HT:Hid (greedyC (txt s) s.size c t=(0,(n:Int),(d:Int))):=by
   show greedyC (txt s) s.size c t=(0,(n:Int),(d:Int))
   rw[HG.out]
   show (if n=0 then _ else _)=_
   rw[if_neg hn]
  have dn:decide ((0:Int) < (n:Int))=true:=decide_eq_true (by omega)
  have HEND:Hid (∀ o a b e,Below w.heap.size w ((((w2.alloc o).setCell ⟨w.heap.size,0,none⟩ a).setCell ⟨w.heap.size,1,none⟩ b).setCell ⟨w.heap.size,2,none⟩ e)):=fun o a b e=>three_below (bal HB2.out _) (Nat.le_refl _) _ _ _
  go_wp2_with fail
  exact bodyPost_ret (v:=.agg #[.int .i64 0,.int .i64 (n:Int),.int .i64 (d:Int)]) (by simp [results,Tryz.results81,go_sem,r0,r1,r2]) rfl ⟨by rw [HT.out],HEND.out _ _ _ _⟩
theorem Mt.same {w w':World} {p:Nat} {s:ByteArray} {c:Nat} (h:Mt w p s c) (e:w'.heap=w.heap):Mt w' p s c:=by
 have hc:∀ g j,w'.cell? ⟨g,j,none⟩=w.cell? ⟨g,j,none⟩:=fun g j=>by
  unfold World.cell?
  rw[e]
 obtain⟨M,a,cap,G,⟨h0,h1,h2,h3,h4⟩,hcp,hCa,hK,hL⟩:=h
 refine⟨M,a,cap,G,⟨(hc _ _).trans h0,(hc _ _).trans h1,(hc _ _).trans h2,(hc _ _).trans h3,by rw [e]; exact h4⟩,hcp,?_,hK.keep (by rw [e]),fun i hi=>?_⟩
 ·rcases hCa with q | ⟨g,off,ea,hg,hx⟩
  ·exact .inl q
  ·exact .inr ⟨g,off,ea,by rw [e]; exact hg,fun j hj=>(hc _ _).trans (hx j hj)⟩
 ·obtain⟨g,cp,e1,e2,e3,e4⟩:=hL i hi
  exact⟨g,cp,e1,e2,by rw [e]; exact e3,fun j hj=>(hc _ _).trans (e4 j hj)⟩
theorem field_len (a b c:Int) (w:World):(Instr.field 105 (.agg #[.int .i64 a,.int .i64 b,.int .i64 c]) 1).run Tryz.prog w=.ok (.int .i64 b) w:=by kernel_rfl
set_option maxHeartbeats 3200000 in
theorem lazyStep_any (p qb:Nat) (s:ByteArray) (c t:Nat) (w:World) (hq:w.cell? ⟨qb,0,none⟩=some (.pointer (some ⟨p,0,none⟩))) (hql:qb < w.heap.size) (hM:Mt w p s c) (hs:s.size≤2600) (hc1:1≤c) (hc2:c≤64) (ht:t < s.size):
  Calls Tryz.prog 84 #[.int .i64 (t:Int),.pointer (some ⟨qb,0,none⟩)] w fun e w'=>e=.returned (tokV (lazyC (txt s) s.size c t))∧Below w.heap.size w w':=by
 obtain⟨W1,hW1⟩:∃ W1,W1=w.alloc (.cells #[.int .i64 0,.int .i64 0,.int .i64 0] 105):=⟨_,rfl⟩
 have gr:W1.heap[w.heap.size]?=some (.cells #[.int .i64 0,.int .i64 0,.int .i64 0] 105 (0,0)):=by rw [hW1]; exact heap_alloc_new _ _
 have hB1:Below w.heap.size w W1:=by rw [hW1]; exact bstart _ _
 have HM1:Hid (Mt W1 p s c):=hM.called hB1
 have k0:W1.cell? ⟨qb,0,none⟩=some (.pointer (some ⟨p,0,none⟩)):=(hB1.cell (p:=⟨qb,0,none⟩) hql).trans hq
 have hq1:qb < W1.heap.size:=Nat.lt_of_lt_of_le hql hB1.size
 have hbN:∀ w',Mt w' p s c→Calls Tryz.prog 85 #[.pointer (some ⟨p,0,none⟩),.int .i64 ((t:Int)+1)] w' fun e w2=>e=.returned (.agg #[.int .i64 0,.int .i64 (bestM (txt s) s.size (t+1) c).1,.int .i64 (bestM (txt s) s.size (t+1) c).2])∧Below w'.heap.size w' w2:=fun w' h=>best_any p s c (t+1) w' h hs hc1 hc2
 have hbT:∀ w',Mt w' p s c→Calls Tryz.prog 85 #[.pointer (some ⟨p,0,none⟩),.int .i64 (t:Int)] w' fun e w2=>e=.returned (.agg #[.int .i64 0,.int .i64 (bestM (txt s) s.size t c).1,.int .i64 (bestM (txt s) s.size t c).2])∧Below w'.heap.size w' w2:=fun w' h=>best_any p s c t w' h hs hc1 hc2
 have hgo:∀ w',Mt w' p s c→Calls Tryz.prog 81 #[.pointer (some ⟨p,0,none⟩),.int .i64 (t:Int)] w' fun e w2=>e=.returned (tokV (greedyC (txt s) s.size c t))∧Below w'.heap.size w' w2:=fun w' h=>bestOrByte_any p s c t w' h hs hc1 hc2 ht
 have HL:Hid (lazyC (txt s) s.size c t=if (bestM (txt s) s.size t c).1 < (bestM (txt s) s.size (t+1) c).1 then ((txt s t:Int),0,0) else greedyC (txt s) s.size c t):=by
  show lazyC (txt s) s.size c t=_
  unfold lazyC greedyC
  by_cases h1:(bestM (txt s) s.size t c).1 < (bestM (txt s) s.size (t+1) c).1
  ·rw[if_pos (.inr h1),if_pos h1]
  ·rw[if_neg h1]
   by_cases h2:(bestM (txt s) s.size t c).1=0
   ·rw[if_pos (.inl h2),if_pos h2]
   ·rw[if_neg (fun q=>q.elim h2 h1),if_neg h2]
 generalize bestM (txt s) s.size t c=P at hbT HL
 generalize bestM (txt s) s.size (t+1) c=N at hbN HL
 obtain⟨n,d⟩:=P
 obtain⟨n',d'⟩:=N
 generalize greedyC (txt s) s.size c t=GT at hgo HL
 have HW1:=hid_of hW1
 have HGR:=hid_of gr
 have HB1:=hid_of hB1
 have HBN:=hid_of hbN
 have HBT:=hid_of hbT
 clear hM hW1 gr hB1 hbN hbT hq
 have hwr:IntKind.i64.wrap ((t:Int)+1)=(t:Int)+1:=wrap_small _ (by omega) (by omega)
 have hfd:=fun (a b c:Int) (w:World)=>field_len a b c w
 go_enter Tryz.func84,Tryz.ntmps84
 go_wp2_with fail
 rw[← HW1.out]
 go_region_held3 (fun w'=>w'.cell? ⟨qb,0,none⟩=some (.pointer (some ⟨p,0,none⟩))) (first | assumption | go_keep | (simp [*]; done))
  (first
   | (go_at_call 85; guard_target=Calls Tryz.prog 85 #[_,Value.int IntKind.i64 (_+1)] _ _; refine Calls.mono (HBN.out _ ?_) ?_; exact HM3.out.same rfl; rintro e w4 ⟨rfl,hb4⟩; have k4:w4.cell? ⟨qb,0,none⟩=some (.pointer (some ⟨p,0,none⟩)):=(hb4.cell (p:=⟨qb,0,none⟩) hq3).trans k3; have HM4:=hid_of (HM3.out.called hb4); have HB4:=hid_of (bnext HB3.out hb4); have HGR4:=hid_of ((hb4.block _ (block_lt HGR3.out)).trans HGR3.out); have hq4:qb < w4.heap.size:=Nat.lt_of_lt_of_le hq3 hb4.size; clear hb4)
   | (go_at_call 85; guard_target=Calls Tryz.prog 85 #[_,Value.int IntKind.i64 (Nat.cast _)] _ _; refine Calls.mono (HBT.out _ ?_) ?_; exact HM3.out.same rfl; rintro e w4 ⟨rfl,hb4⟩; have k4:w4.cell? ⟨qb,0,none⟩=some (.pointer (some ⟨p,0,none⟩)):=(hb4.cell (p:=⟨qb,0,none⟩) hq3).trans k3; have HM4:=hid_of (HM3.out.called hb4); have HB4:=hid_of (bnext HB3.out hb4); have HGR4:=hid_of ((hb4.block _ (block_lt HGR3.out)).trans HGR3.out); have hq4:qb < w4.heap.size:=Nat.lt_of_lt_of_le hq3 hb4.size; clear hb4)
   | (go_at_call 85; guard_target=Calls Tryz.prog 85 #[_,Value.int IntKind.i64 (_+1)] _ _; refine Calls.mono (HBN.out _ ?_) ?_; exact HM1.out.same rfl; rintro e w3 ⟨rfl,hb3⟩; have k3:w3.cell? ⟨qb,0,none⟩=some (.pointer (some ⟨p,0,none⟩)):=(hb3.cell (p:=⟨qb,0,none⟩) hq1).trans k0; have HM3:Hid (Mt w3 p s c):=Mt.called HM1.out ⟨hb3.1,hb3.2,hb3.3,hb3.4,hb3.5⟩; have HB3:Hid (Below w.heap.size w w3):=bnext HB1.out ⟨hb3.1,hb3.2,hb3.3,hb3.4,hb3.5⟩; have HGR3:=hid_of ((hb3.block _ (block_lt HGR.out)).trans HGR.out); have hq3:qb < w3.heap.size:=Nat.lt_of_lt_of_le hq1 hb3.size; clear hb3)
   | (go_at_call 85; guard_target=Calls Tryz.prog 85 #[_,Value.int IntKind.i64 (Nat.cast _)] _ _; refine Calls.mono (HBT.out _ ?_) ?_; exact HM1.out.same rfl; rintro e w3 ⟨rfl,hb3⟩; have k3:w3.cell? ⟨qb,0,none⟩=some (.pointer (some ⟨p,0,none⟩)):=(hb3.cell (p:=⟨qb,0,none⟩) hq1).trans k0; have HM3:Hid (Mt w3 p s c):=Mt.called HM1.out ⟨hb3.1,hb3.2,hb3.3,hb3.4,hb3.5⟩; have HB3:Hid (Below w.heap.size w w3):=bnext HB1.out ⟨hb3.1,hb3.2,hb3.3,hb3.4,hb3.5⟩; have HGR3:=hid_of ((hb3.block _ (block_lt HGR.out)).trans HGR.out); have hq3:qb < w3.heap.size:=Nat.lt_of_lt_of_le hq1 hb3.size; clear hb3))
 have hg4:=HGR4.out
 have q0:w4.cell? ⟨w.heap.size,0,none⟩=some (.int .i64 0):=(cell_of_block hg4 0).trans rfl
 have q1:w4.cell? ⟨w.heap.size,1,none⟩=some (.int .i64 0):=(cell_of_block hg4 1).trans rfl
 have q2:w4.cell? ⟨w.heap.size,2,none⟩=some (.int .i64 0):=(cell_of_block hg4 2).trans rfl
 clear hg4 k0 k3 hq3 hq1
 by_cases hlt:n < n'
 ·have dl:decide (n < n')=true:=decide_eq_true hlt
  have HT:Hid (lazyC (txt s) s.size c t=((txt s t:Int),0,0)):=by
   show lazyC (txt s) s.size c t=((txt s t:Int),0,0)
   rw[HL.out]
   show (if n < n' then _ else _)=_
   rw[if_pos hlt]
  have hby:=byteAt_any p s t w4 HM4.out.text.1 HM4.out.text.2 ht (by omega)
  go_wp2_with fail
  refine hby.mono ?_
  rintro e w5 ⟨rfl,hB5⟩
  have hg5:=(hB5.block _ (block_lt HGR4.out)).trans HGR4.out
  have r0:w5.cell? ⟨w.heap.size,0,none⟩=some (.int .i64 0):=(cell_of_block hg5 0).trans rfl
  have r1:w5.cell? ⟨w.heap.size,1,none⟩=some (.int .i64 0):=(cell_of_block hg5 1).trans rfl
  have r2:w5.cell? ⟨w.heap.size,2,none⟩=some (.int .i64 0):=(cell_of_block hg5 2).trans rfl
  have rf:∀ q,w5.frozen? ⟨w.heap.size,q,none⟩=false:=fun q=>by simp [World.frozen?,hg5]
  have HEND:Hid (∀ a b e,Below w.heap.size w (((w5.setCell ⟨w.heap.size,0,none⟩ a).setCell ⟨w.heap.size,1,none⟩ b).setCell ⟨w.heap.size,2,none⟩ e)):=fun a b e=>three_below (bnext HB4.out hB5) (Nat.le_refl _) _ _ _
  clear hby hB5 hg5
  go_wp2_with fail
  exact bodyPost_ret (v:=.agg #[.int .i64 (txt s t:Nat),.int .i64 0,.int .i64 0]) (by simp [results,Tryz.results84,go_sem,r0,r1,r2]) rfl ⟨by rw [HT.out],HEND.out _ _ _⟩
 ·have dl:decide (n < n')=false:=decide_eq_false hlt
  have HT:Hid (lazyC (txt s) s.size c t=GT):=by
   show lazyC (txt s) s.size c t=GT
   rw[HL.out]
   show (if n < n' then _ else _)=_
   rw[if_neg hlt]
  have hby:=hgo w4 HM4.out
  obtain⟨gx,gy,gz⟩:=GT
  go_wp2_with fail
  refine hby.mono ?_
  rintro e w5 ⟨rfl,hB5⟩
  have hg5:=(hB5.block _ (block_lt HGR4.out)).trans HGR4.out
  have r0:w5.cell? ⟨w.heap.size,0,none⟩=some (.int .i64 0):=(cell_of_block hg5 0).trans rfl
  have r1:w5.cell? ⟨w.heap.size,1,none⟩=some (.int .i64 0):=(cell_of_block hg5 1).trans rfl
  have r2:w5.cell? ⟨w.heap.size,2,none⟩=some (.int .i64 0):=(cell_of_block hg5 2).trans rfl
  have rf:∀ q,w5.frozen? ⟨w.heap.size,q,none⟩=false:=fun q=>by simp [World.frozen?,hg5]
  have HEND:Hid (∀ a b e,Below w.heap.size w (((w5.setCell ⟨w.heap.size,0,none⟩ a).setCell ⟨w.heap.size,1,none⟩ b).setCell ⟨w.heap.size,2,none⟩ e)):=fun a b e=>three_below (bnext HB4.out hB5) (Nat.le_refl _) _ _ _
  clear hby hB5 hg5
  go_wp2_with fail
  exact bodyPost_ret (v:=.agg #[.int .i64 gx,.int .i64 gy,.int .i64 gz]) (by simp [results,Tryz.results84,go_sem,r0,r1,r2]) rfl ⟨by rw [HT.out],HEND.out _ _ _⟩
end Go.Proofs.YtklpiihnbokkkaaGreatDoor
namespace Go.Proofs.YtklpiihnbokkkaaGreatDoor
open Go.RowKit Go.Joins TokMath SearchMath
set_option maxHeartbeats 1600000 in
theorem greedy_answer:GreedyAnswer:=by
 intro s c w hs _
 have hcm:=canMatch_any s c w hs
 refine⟨fun hR=>?_,fun hR=>?_⟩
 ·have hR':s.size≤2600∧1≤c∧c≤64:=hR
  rw[decide_eq_true hR'] at hcm
  obtain⟨hs2,hc1,hc2⟩:=hR
  obtain⟨ch,rfl⟩:=Int.eq_ofNat_of_zero_le (show 0≤c by omega)
  have hnew:=newMatcher_any s ch w hs2 (by omega)
  go_enter Tryz.func51,Tryz.ntmps51
  go_wp2_with fail
  refine hcm.mono ?_
  rintro e w1 ⟨rfl,rfl⟩
  clear hcm
  go_wp2_with fail
  refine hnew.mono ?_
  rintro e w2 ⟨rfl,hM2,hB2⟩
  have hwk:=walk_bound (w1.heap.size+1) s (greedyC (txt s) s.size ch) w2 hM2.text.1 hM2.text.2 hs2 (fun i _=>greedy_fine _ _ _ i) (fun w' hb i hi=>bestOrByte_any _ s ch i w' (hM2.called hb) hs2 (by omega) (by omega) hi)
  have HB2:=hid_of hB2
  clear hnew hM2 hB2
  go_wp2_with fail
  refine hwk.mono ?_
  rintro e w3 ⟨a,cap,rfl,ht,hcp,hB3⟩
  have HZ:Hid (TSL w3 w1.heap.size a (greedyL s (ch:Int)).length (fun j=>(greedyL s (ch:Int)).getD j (0,0,0))∧(greedyL s (ch:Int)).length≤cap∧Below w1.heap.size w1 w3):=by
   refine⟨?_,hcp,bnext HB2.out hB3⟩
   rcases ht with q | ⟨g,e,ho⟩
   ·exact .inl q
   ·exact .inr ⟨g,e,Nat.le_trans HB2.out.size ho.1,ho.2⟩
  clear hwk ht hcp hB3
  go_wp2_with fail
  go_ret2
  exact⟨a,cap,rfl,HZ.out.1,HZ.out.2.1,HZ.out.2.2⟩
 ·have hR':¬ (s.size≤2600∧1≤c∧c≤64):=hR
  rw[decide_eq_false hR'] at hcm
  go_enter Tryz.func51,Tryz.ntmps51
  go_wp2_with fail
  refine hcm.mono ?_
  rintro e w1 ⟨rfl,rfl⟩
  go_wp2_with fail
  go_ret2
  exact⟨none,0,rfl,fun g off e=>(by cases e),Below.refl _ _⟩
set_option maxHeartbeats 1600000 in
theorem lazy_answer:LazyAnswer:=by
 intro s c w hs _
 have hcm:=canMatch_any s c w hs
 refine⟨fun hR=>?_,fun hR=>?_⟩
 ·have hR':s.size≤2600∧1≤c∧c≤64:=hR
  rw[decide_eq_true hR'] at hcm
  obtain⟨hs2,hc1,hc2⟩:=hR
  obtain⟨ch,rfl⟩:=Int.eq_ofNat_of_zero_le (show 0≤c by omega)
  have hnew:=newMatcher_any s ch w hs2 (by omega)
  go_enter Tryz.func53,Tryz.ntmps53
  go_wp2_with fail
  refine hcm.mono ?_
  rintro e w1 ⟨rfl,rfl⟩
  clear hcm
  go_wp2_with fail
  refine hnew.mono ?_
  rintro e w2 ⟨rfl,hM2,hB2⟩
  obtain⟨W3,hW3⟩:∃ W,W=w2.alloc (.cells #[.pointer (some ⟨w1.heap.size+1,0,none⟩)] 120):=⟨_,rfl⟩
  have hM3:Mt W3 (w1.heap.size+1) s ch:=by rw [hW3]; exact hM2.called (bstart _ _)
  have hbx:W3.cell? ⟨w2.heap.size,0,none⟩=some (.pointer (some ⟨w1.heap.size+1,0,none⟩)):=by rw [hW3]; simp
  have hlx:w2.heap.size < W3.heap.size:=by rw [hW3]; simp
  have hwk:=walk_lazy (w1.heap.size+1) w2.heap.size s (lazyC (txt s) s.size ch) W3 hM3.text.1 hM3.text.2 hs2 (fun i _=>lazy_fine _ _ _ i) (fun w' hb i hi=>lazyStep_any _ _ s ch i w' ((hb.cell (p:=⟨w2.heap.size,0,none⟩) hlx).trans hbx) (Nat.lt_of_lt_of_le hlx hb.size) (hM3.called hb) hs2 (by omega) (by omega) hi)
  have HB3:Hid (Below w1.heap.size w1 W3):=by
   show Below w1.heap.size w1 W3
   rw[hW3]
   exact bal hB2 _
  have HW3:=hid_of hW3
  clear hnew hM2 hB2 hM3 hW3
  go_wp2_with fail
  rw[← HW3.out]
  refine hwk.mono ?_
  rintro e w3 ⟨a,cap,rfl,ht,hcp,hB3⟩
  have HZ:Hid (TSL w3 w1.heap.size a (lazyL s (ch:Int)).length (fun j=>(lazyL s (ch:Int)).getD j (0,0,0))∧(lazyL s (ch:Int)).length≤cap∧Below w1.heap.size w1 w3):=by
   refine⟨?_,hcp,bnext HB3.out hB3⟩
   rcases ht with q | ⟨g,e,ho⟩
   ·exact .inl q
   ·exact .inr ⟨g,e,Nat.le_trans HB3.out.size ho.1,ho.2⟩
  clear hwk ht hcp hB3
  go_wp2_with fail
  go_ret2
  exact⟨a,cap,rfl,HZ.out.1,HZ.out.2.1,HZ.out.2.2⟩
 ·have hR':¬ (s.size≤2600∧1≤c∧c≤64):=hR
  rw[decide_eq_false hR'] at hcm
  go_enter Tryz.func53,Tryz.ntmps53
  go_wp2_with fail
  refine hcm.mono ?_
  rintro e w1 ⟨rfl,rfl⟩
  go_wp2_with fail
  go_ret2
  exact⟨none,0,rfl,fun g off e=>(by cases e),Below.refl _ _⟩
end Go.Proofs.YtklpiihnbokkkaaGreatDoor
