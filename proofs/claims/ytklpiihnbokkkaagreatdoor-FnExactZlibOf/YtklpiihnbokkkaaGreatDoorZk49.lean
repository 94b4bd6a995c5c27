/-
  Texts of the proof, put together.
-/
import Derived.Test.YtklpiihnbokkkaaGreatDoorZk48
namespace Go.Proofs.YtklpiihnbokkkaaGreatDoor
open Go.RowKit Go.Joins Go.Sort TokMath SearchMath CheapMath
theorem below_grow7 {w:World} (n:Nat) (os:Array Obj):Below w.heap.size w (grow (w.drewN n) os):=by
 refine⟨rfl,rfl,rfl,?_,fun k hk=>heap_grow_old (w.drewN n) os hk⟩
 rw[size_grow]
 show w.heap.size≤w.heap.size+os.size
 omega
theorem specCost_below (x y z:Int) (w:World):
  Calls Tryz.prog 72 #[.agg #[.int .i64 x,.int .i64 y,.int .i64 z]] w fun e w'=>e=.returned (.int .i64 (costT (x,y,z)))∧Below w.heap.size w w':=by
 refine (specCost7 x y z w).mono ?_
 rintro e w1 ⟨rfl,k,os,rfl⟩
 exact⟨rfl,below_grow7 k os⟩
def ChSt (w w':World) (gc gt g0 N:Nat) (C:Nat→Int) (F:Nat→Tok):Prop:=IOwn w' w.heap.size gc (N+1) (N+1) C∧TOwn w' w.heap.size gt N F∧TokL w w' w.heap.size g0 0 0 []∧gc≠gt∧g0≠gc∧g0≠gt
section
variable {w w' w1:World} {gc gt g0 N:Nat} {C:Nat→Int} {F:Nat→Tok}
theorem ChSt.called (h:ChSt w w' gc gt g0 N C F) (hb:Below w'.heap.size w' w1):ChSt w w1 gc gt g0 N C F:=by
 obtain⟨h1,h2,h3,h4,h5,h6⟩:=h
 exact⟨h1.called hb,h2.called hb,h3.called hb,h4,h5,h6⟩
theorem ChSt.setC (h:ChSt w w' gc gt g0 N C F) (j:Nat) (hj:j < N+1) (x:Int):ChSt w (w'.setCell ⟨gc,j,none⟩ (.int .i64 x)) gc gt g0 N (upd C j x) F:=by
 obtain⟨h1,h2,h3,h4,h5,h6⟩:=h
 have e:∀ g,g≠gc→(w'.setCell ⟨gc,j,none⟩ (.int .i64 x)).heap[g]?=w'.heap[g]?:=fun g hg=>Below.heap_setCell _ _ _ _ hg
 refine⟨h1.set j hj x,h2.keep (e gt (Ne.symm h4)),⟨h3.1,?_,h3.2.2.setCell (p:=⟨gc,j,none⟩) h1.base_le _⟩,h4,h5,h6⟩
 have h:=h3.2.1
 refine⟨h.1,?_⟩
 rcases h.2 with ⟨q,_⟩ | ⟨g',cap',cur,hv,hb,hg,hr⟩
 ·cases q
 ·cases hv
  exact .inr ⟨_,_,cur,rfl,hb,(e g0 h5).trans hg,hr⟩
theorem ChSt.setT (h:ChSt w w' gc gt g0 N C F) (j:Nat) (hj:j < N) (x y z:Int):ChSt w (((w'.setCell ⟨gt,j * 3,none⟩ (.int .i64 x)).setCell ⟨gt,j * 3+1,none⟩ (.int .i64 y)).setCell ⟨gt,j * 3+2,none⟩ (.int .i64 z)) gc gt g0 N C (updT F j (x,y,z)):=by
 obtain⟨h1,h2,h3,h4,h5,h6⟩:=h
 have e:∀ g,g≠gt→(((w'.setCell ⟨gt,j * 3,none⟩ (.int .i64 x)).setCell ⟨gt,j * 3+1,none⟩ (.int .i64 y)).setCell ⟨gt,j * 3+2,none⟩ (.int .i64 z)).heap[g]?=w'.heap[g]?:=fun g hg=>by
  rw[Below.heap_setCell _ _ _ _ hg,Below.heap_setCell _ _ _ _ hg,Below.heap_setCell _ _ _ _ hg]
 refine⟨h1.keep (e gc h4),h2.set j hj x y z,⟨h3.1,?_,((h3.2.2.setCell (p:=⟨gt,j * 3,none⟩) h2.1 _).setCell (p:=⟨gt,j * 3+1,none⟩) h2.1 _).setCell (p:=⟨gt,j * 3+2,none⟩) h2.1 _⟩,h4,h5,h6⟩
 have h:=h3.2.1
 refine⟨h.1,?_⟩
 rcases h.2 with ⟨q,_⟩ | ⟨g',cap',cur,hv,hb,hg,hr⟩
 ·cases q
 ·cases hv
  exact .inr ⟨_,_,cur,rfl,hb,(e g0 h6).trans hg,hr⟩
theorem ChSt.congr {C':Nat→Int} {F':Nat→Tok} (h:ChSt w w' gc gt g0 N C F) (hC:∀ i,i < N+1→C i=C' i) (hF:∀ i,i < N→F i=F' i):ChSt w w' gc gt g0 N C' F':=by
 obtain⟨h1,h2,h3,h4⟩:=h
 exact⟨h1.congr hC,h2.congr hF,h3,h4⟩
theorem ChSt.tok (h:ChSt w w' gc gt g0 N C F) (j:Nat) (hj:j < N):w'.cell? ⟨gt,j * 3,none⟩=some (.int .i64 (F j).1)∧w'.cell? ⟨gt,j * 3+1,none⟩=some (.int .i64 (F j).2.1)∧w'.cell? ⟨gt,j * 3+2,none⟩=some (.int .i64 (F j).2.2):=by
 obtain⟨_,cur,h2,h3,h4⟩:=h.2.1
 rw[cell_of_block h2,cell_of_block h2,cell_of_block h2]
 exact h4 j hj
end
def WayB (w w':World) (g n cp gt N:Nat) (F:Nat→Tok) (L:List Tok):Prop:=TokL w w' w.heap.size g n cp L∧TOwn w' w.heap.size gt N F∧g≠gt
section
variable {w w' w1:World} {g n cp gt N:Nat} {F:Nat→Tok} {L:List Tok}
theorem WayB.tok (h:WayB w w' g n cp gt N F L) (j:Nat) (hj:j < N):w'.cell? ⟨gt,j * 3,none⟩=some (.int .i64 (F j).1)∧w'.cell? ⟨gt,j * 3+1,none⟩=some (.int .i64 (F j).2.1)∧w'.cell? ⟨gt,j * 3+2,none⟩=some (.int .i64 (F j).2.2):=by
 obtain⟨_,cur,h2,h3,h4⟩:=h.2.1
 rw[cell_of_block h2,cell_of_block h2,cell_of_block h2]
 exact h4 j hj
theorem WayB.app {v1:Value} {o:Obj} {t:Tok} (h:WayB w w' g n cp gt N F L) (hown:w1.ownsRow w.heap.size 105 3 v1 (L ++ [t]).length (tcells (L ++ [t]))) (hg:(w'.alloc o).grownBy w1 (some g)) (hat:v1.ownBlock=some g∨v1.ownBlock=some (w'.alloc o).heap.size):∃ g1 cap1,v1=.slice (some ⟨g1,0,none⟩) (n+1) cap1∧Hid (WayB w w1 g1 (n+1) cap1 gt N F (L ++ [t])):=by
 obtain⟨h1,h2,h3⟩:=h
 obtain⟨g1,cap1,rfl,hD⟩:=h1.app hown hg
 have hlt:=h2.lt
 refine⟨g1,cap1,rfl,hD,(h2.called (bstart w' o)).grown hg (fun e=>h3 (Option.some.inj e)),?_⟩
 rcases hat with e | e
 ·have e':some g1=some g:=e
  cases e'
  exact h3
 ·have e':some g1=some (w'.alloc o).heap.size:=e
  have e2:(w'.alloc o).heap.size=w'.heap.size+1:=by simp
  have:=Option.some.inj e'
  omega
end
set_option maxHeartbeats 8000000 in
set_option maxRecDepth 100000 in
theorem specCheap_right (s:ByteArray) (ch:Nat) (w:World) (hs2:s.size≤2600) (hc1:(1:Int)≤(ch:Int)) (hc2:(ch:Int)≤64):
  Calls Tryz.prog 43 #[.string s,.int .i64 (ch:Int)] w (WayPost (cheapL s (ch:Int)) w):=by
 have mixed:Tryz.prog.follows .mixedOrders=true:=by kernel_rfl
 have hok:=wayOk_yes s (ch:Int) (w.alloc (.cells #[] 105)) ⟨hs2,hc1,hc2⟩
 have hz1:(w.alloc (.cells #[] 105)).heap.size=w.heap.size+1:=by simp
 have mk1:=make_ints (w.alloc (.cells #[] 105)) (s.size+1) (by omega)
 rw[hz1,show (((s.size+1:Nat)):Int)=(s.size:Int)+1 by omega] at mk1
 have hz2:((w.alloc (.cells #[] 105)).alloc (.cells (madeCells #[Value.int .i64 0] (s.size+1)) 3)).heap.size=w.heap.size+1+1:=by simp
 have mk2:=make_toks ((w.alloc (.cells #[] 105)).alloc (.cells (madeCells #[Value.int .i64 0] (s.size+1)) 3)) s.size (by omega)
 rw[hz2] at mk2
 have H0:Hid (ChSt w (((w.alloc (.cells #[] 105)).alloc (.cells (madeCells #[Value.int .i64 0] (s.size+1)) 3)).alloc (.cells (madeCells #[.int .i64 0,.int .i64 0,.int .i64 0] (s.size * 3)) 105)) (w.heap.size+1) (w.heap.size+1+1) w.heap.size s.size (fun i=>(tab (txt s) s.size ch 0 i).1) (fun i=>(tab (txt s) s.size ch 0 i).2)):=by
  have i1:=IOwn.made (base:=w.heap.size) (w.alloc (.cells #[] 105)) (s.size+1) (by unfold maxLen; omega) (by simp)
  rw[hz1] at i1
  have i2:=TOwn.made ((w.alloc (.cells #[] 105)).alloc (.cells (madeCells #[Value.int .i64 0] (s.size+1)) 3)) w.heap.size s.size (by simp; omega)
  rw[hz2] at i2
  exact⟨i1.alloc _,i2,((TokL.start w).called (bstart _ _)).called (bstart _ _),by omega,by omega,by omega⟩
 generalize ((w.alloc (.cells #[] 105)).alloc (.cells (madeCells #[Value.int .i64 0] (s.size+1)) 3)).alloc (.cells (madeCells #[.int .i64 0,.int .i64 0,.int .i64 0] (s.size * 3)) 105)=W0 at mk2 H0
 clear hz1 hz2
 go_enter Tryz.func43,Tryz.ntmps43
 go_wp2_with fail
 refine hok.mono ?_
 rintro e w1 ⟨rfl,rfl⟩
 clear hok
 go_wp2_with fail
 clear mk1 mk2
 obtain⟨gc,hgc⟩:∃ gc,gc=w.heap.size+1:=⟨_,rfl⟩
 obtain⟨gt,hgt⟩:∃ gt,gt=w.heap.size+1+1:=⟨_,rfl⟩
 rw[← hgt,← hgc] at H0
 rw[← hgt,← hgc]
 have H1:=H0
 clear H0 hgc hgt
 go_loopg [10] (s.size+1) (fun gk k w'=>∃ (K:Nat),K≤gk∧K≤s.size∧k=.int .i64 ((K:Int) - 1)∧Hid (ChSt w w' gc gt w.heap.size s.size (fun i=>(tab (txt s) s.size ch (s.size - K) i).1) (fun i=>(tab (txt s) s.size ch (s.size - K) i).2)))
 case atStart=>exact⟨s.size,by omega,Nat.le_refl _,rfl,by rw [Nat.sub_self]; exact H1⟩
 case round=>
  clear H1
  obtain⟨K,hKg,hK,rfl,hS⟩:=hrel
  cases K with
  | zero=>
   rw[show (((0:Nat):Int) - 1)=-1 from rfl]
   have HB0:Hid (WayB w wr w.heap.size 0 0 gt s.size (takeAt (txt s) s.size ch) []∧[] ++ wayL (takeAt (txt s) s.size ch) s.size 0=cheapL s (ch:Int)):=by
    obtain⟨_,h2,h3,_,_,h6⟩:=hS.out
    exact⟨⟨h3,h2,h6⟩,rfl⟩
   have HST:Hid (∀ i,i < s.size→1≤sizeT (takeAt (txt s) s.size ch i)):=fun i hi=>(fine_size (take_fine hi) hi).1
   clear hS
   go_wp2_with fail
   go_loopg [6,16] (s.size+1) (fun gk v y w'=>∃ (i g n cp:Nat) (L:List Tok),v=.slice (some ⟨g,0,none⟩) n cp∧i≤s.size∧n≤i∧y=.int .i64 i∧s.size - i≤gk∧Hid (WayB w w' g n cp gt s.size (takeAt (txt s) s.size ch) L∧L ++ wayL (takeAt (txt s) s.size ch) s.size i=cheapL s (ch:Int)))
   case atStart=>exact⟨0,w.heap.size,0,0,[],rfl,Nat.zero_le _,Nat.le_refl _,rfl,by omega,HB0⟩
   case round=>
    clear HB0
    obtain⟨i,g,n,cp,L,rfl,hi,hni,rfl,hgk,hS⟩:=hrel
    by_cases hlt:i < s.size
    ·have dl:decide ((i:Int) < (s.size:Int))=true:=decide_eq_true (by omega)
     have HSt:=hid_of (way_step HST.out hlt)
     have hfi:=fine_size (take_fine (f:=txt s) (N:=s.size) (chain:=ch) hlt) hlt
     obtain⟨⟨x,y,z⟩,hr⟩:∃ r,r=takeAt (txt s) s.size ch i:=⟨_,rfl⟩
     obtain⟨c0,c1,c2⟩:=hS.out.1.tok i hlt
     rw[← hr] at c0 c1 c2
     have HR:=hid_of hr
     have HSZ:Hid (i+sizeT (takeAt (txt s) s.size ch i)=i+sizeT (x,y,z)):=by
      show _=_
      rw[hr]
     rw[← hr] at hfi
     have hyr:0≤y:=by
      rcases take_fine (f:=txt s) (N:=s.size) (chain:=ch) hlt with q | ⟨k,d,q,_⟩
      ·rw[← hr] at q
       cases q
       exact Int.le_refl _
      ·rw[← hr] at q
       cases q
       omega
     clear hr
     have lg:=hS.out.1.2.1.lt
     have HLN:=hid_of hS.out.1.1.1
     have hbl:=hS.out.1.1.block.1
     have hll:=hS.out.1.1.lt
     have HAPP:∀ v1 w5,w5.ownsRow w.heap.size 105 3 v1 (L ++ [(x,y,z)]).length (tcells (L ++ [(x,y,z)]))→(wr.alloc (.cells #[.int .i64 x,.int .i64 y,.int .i64 z] 105)).grownBy w5 (some g)→(v1.ownBlock=some g∨v1.ownBlock=some (wr.alloc (.cells #[.int .i64 x,.int .i64 y,.int .i64 z] 105)).heap.size)→∃ g1 cap1,v1=.slice (some ⟨g1,0,none⟩) (n+1) cap1∧Hid (WayB w w5 g1 (n+1) cap1 gt s.size (takeAt (txt s) s.size ch) (L ++ [(x,y,z)])):=fun v1 w5 y1 y2 y3=>hS.out.1.app y1 y2 y3
     have HAP:=hid_of HAPP
     clear HAPP
     go_wp2_with (at_builtin; refine toks_append_at (S:=w.heap.size) (xs:=L) (ys:=[(x,y,z)]) rfl _ _ rfl rfl (World.ownsRow.alloc hS.out.1.1.2.1 _) ⟨wr.heap.size,0,none⟩ 1 1 rfl rfl (news_tk wr x y z _ rfl) (by have:=HLN.out; simp only [List.length_cons,List.length_nil]; omega) (by simp; omega) ?_)
     intro v1 w5 y1 y2 y3
     obtain⟨g1,cap1,rfl,hD⟩:=HAP.out v1 w5 (by simpa using y1) y2 (by simpa [Value.ownBlock] using y3)
     have e1:=(hD.out.tok i hlt).2.1
     rw[← HR.out] at e1
     have lg5:=hD.out.2.1.lt
     clear y1 y2 y3 HAP c0 c1 c2 lg
     by_cases hy:y=0
     ·subst hy
      have HN:Hid (WayB w w5 g1 (n+1) cap1 gt s.size (takeAt (txt s) s.size ch) (L ++ [(x,0,z)])∧L ++ [(x,0,z)] ++ wayL (takeAt (txt s) s.size ch) s.size (i+1)=cheapL s (ch:Int)):=by
       refine⟨hD.out,?_⟩
       have hz:=HSZ.out
       rw[size_byte] at hz
       rw[← hS.out.2,HSt.out,hz,← HR.out,List.append_assoc]
       rfl
      clear hD
      go_wp2_with fail
      go_roundg (s.size - (i+1))
      case measure=>omega
      case rel=>exact⟨i+1,g1,n+1,cap1,_,rfl,by omega,by omega,by go_num,Nat.le_refl _,HN⟩
     ·have dy:(y == 0)=false:=by simp; omega
      obtain⟨k,rfl⟩:=Int.eq_ofNat_of_zero_le hyr
      have hsz:sizeT (x,(k:Int),z)=k:=size_rep _ _ (by omega)
      rw[hsz] at hfi HSZ
      have dk:(k == 0)=false:=by simp; omega
      have hfi1:=hfi.1
      have hfi2:=hfi.2
      have HN:Hid (WayB w w5 g1 (n+1) cap1 gt s.size (takeAt (txt s) s.size ch) (L ++ [(x,(k:Int),z)])∧L ++ [(x,(k:Int),z)] ++ wayL (takeAt (txt s) s.size ch) s.size (i+k)=cheapL s (ch:Int)):=by
       refine⟨hD.out,?_⟩
       rw[← hS.out.2,HSt.out,HSZ.out,← HR.out,List.append_assoc]
       rfl
      clear hD
      go_wp2_with fail
      go_roundg (s.size - (i+k))
      case measure=>omega
      case rel=>exact⟨i+k,g1,n+1,cap1,_,rfl,hfi2,by omega,by go_num,Nat.le_refl _,HN⟩
    ·obtain rfl:i=s.size:=by omega
     have dl:decide ((s.size:Int) < (s.size:Int))=false:=decide_eq_false (by omega)
     have HZ:Hid (TokL w wr w.heap.size g n cp (cheapL s (ch:Int))):=by
      have h:=hS.out.2
      rw[way_end (Nat.le_refl _),List.append_nil] at h
      rw[← h]
      exact hS.out.1.1
     go_wp2_with fail
     go_ret2
     obtain⟨a',c',hv,hcl,hT⟩:=tsl_of_own HZ.out.2.1 rfl
     cases hv
     exact⟨_,_,by rw [← HZ.out.1]; rfl,hT,hcl,HZ.out.2.2⟩
  | succ t=>
   rw[show (((t+1:Nat):Int) - 1)=(t:Int) by omega]
   have hts:t < s.size:=by omega
   obtain⟨C,hCe⟩:∃ C:Nat→Int,C=fun i=>(tab (txt s) s.size ch (s.size - (t+1)) i).1:=⟨_,rfl⟩
   obtain⟨F,hFe⟩:∃ F:Nat→Tok,F=fun i=>(tab (txt s) s.size ch (s.size - (t+1)) i).2:=⟨_,rfl⟩
   rw[← hCe,← hFe] at hS
   have HCE:=hid_of hCe
   have HFE:=hid_of hFe
   clear hCe hFe
   have hx:=txt_get s t hts
   obtain⟨x,hxe⟩:∃ x:Int,x=((s[t]'hts).toNat:Int):=⟨_,rfl⟩
   have HX:Hid (x=(txt s t:Int)):=by
    show x=(txt s t:Int)
    rw[hxe,hx]
   have hxr:0≤x∧x≤255:=by
    have:=txt_lt s t
    rw[HX.out]
    omega
   have hxe2:((s[t]'hts).toNat:Int)=x:=hxe.symm
   clear hx hxe
   obtain⟨c0,c1,c2⟩:=hS.out.tok t hts
   have fz:=hS.out.2.1.free
   have lt':=hS.out.2.1.lt
   have HS1:=hid_of (hS.out.setT t hts x 0 0)
   generalize F t=old at c0 c1 c2
   go_wp2_with fail
   clear c0 c1 c2 fz lt'
   generalize ((wr.setCell ⟨gt,t * 3,none⟩ (.int .i64 x)).setCell ⟨gt,t * 3+1,none⟩ (.int .i64 0)).setCell ⟨gt,t * 3+2,none⟩ (.int .i64 0)=W1 at HS1
   clear hS
   obtain⟨b0,b1,b2⟩:=HS1.out.tok t hts
   have eu:updT F t (x,0,0) t=(x,0,0):=by
    unfold updT
    rw[if_pos rfl]
   rw[eu] at b0 b1 b2
   clear eu
   have cc:=HS1.out.1.cell (t+1) (by omega)
   have cd:=HS1.out.1.cell t (by omega)
   have cf:=HS1.out.1.free t (by omega)
   have lc:=HS1.out.1.lt
   have lt':=HS1.out.2.1.lt
   have hne:=HS1.out.2.2.2.1
   obtain⟨V,hV⟩:∃ V,V=C (t+1):=⟨_,rfl⟩
   rw[← hV] at cc
   have HV:=hid_of hV
   clear hV
   generalize C t=oldc at cd
   obtain⟨P,hP⟩:∃ P,P=costT (x,0,0):=⟨_,rfl⟩
   have hcost:=fun w=>specCost_below x 0 0 w
   rw[← hP] at hcost
   have HP:=hid_of hP
   have hPr:0≤P∧P≤31:=by rw [hP]; exact cost_range _
   have HCB:Hid (∀ i,t < i→0≤C i∧C i≤30000):=fun i hi=>by
    have e1:C i=costAt (txt s) s.size ch i:=by
     rw[HCE.out]
     show (tab (txt s) s.size ch (s.size - (t+1)) i).1=(tab (txt s) s.size ch s.size i).1
     rw[tab_done (m:=s.size - (t+1)) (by omega) (by omega)]
    have e2:=cost_small (f:=txt s) (N:=s.size) (chain:=ch) (s.size - i) i rfl
    rw[e1]
    omega
   have hVr:0≤V∧V≤30000:=by
    rw[HV.out]
    exact HCB.out (t+1) (by omega)
   clear hP
   have z1:(0:Int)≤(t:Int):=Int.natCast_nonneg _
   have z2:(t:Int) < (s.size:Int):=by omega
   have z3:(t:Int)+1 < (s.size:Int)+1:=by omega
   have z4:(t:Int) < (s.size:Int)+1:=by omega
   have z5:IntKind.i64.wrap ((t:Int)+1)=(t:Int)+1:=by
    rw[IntKind.wrap_i64]
    omega
   have z6:(0:Int)≤(t:Int)+1:=by omega
   have z7:((t:Int)+1).toNat=t+1:=by omega
   have z8:(t:Int)+1 < ((s.size+1:Nat):Int):=by omega
   have z9:(t:Int) < ((s.size+1:Nat):Int):=by omega
   have z10:IntKind.i64.wrap (P+V)=P+V:=by
    rw[IntKind.wrap_i64]
    omega
   have hta:(⟨gc,t,none⟩:Addr)≠⟨gc,t+1,none⟩:=fun e=>by
    injection e with _ e2
    omega
   go_region_held3 (fun w'=>w'.cell? ⟨gt,t * 3,none⟩=some (.int .i64 x)∧w'.cell? ⟨gt,t * 3+1,none⟩=some (.int .i64 0)∧w'.cell? ⟨gt,t * 3+2,none⟩=some (.int .i64 0)∧w'.cell? ⟨gc,t+1,none⟩=some (.int .i64 V)) (first | go_keep | (refine⟨?_,?_,?_,?_⟩ <;> first | assumption | (simp [*]; done))) (first | (go_at_call 72; refine (hcost _).mono ?_; rintro e w3 ⟨rfl,hb3⟩; have y0:w3.cell? ⟨gt,t * 3,none⟩=some (.int .i64 x):=(hb3.cell (p:=⟨gt,t * 3,none⟩) lt').trans b0; have y1:w3.cell? ⟨gt,t * 3+1,none⟩=some (.int .i64 0):=(hb3.cell (p:=⟨gt,t * 3+1,none⟩) lt').trans b1; have y2:w3.cell? ⟨gt,t * 3+2,none⟩=some (.int .i64 0):=(hb3.cell (p:=⟨gt,t * 3+2,none⟩) lt').trans b2; have y3:w3.cell? ⟨gc,t+1,none⟩=some (.int .i64 V):=(hb3.cell (p:=⟨gc,t+1,none⟩) lc).trans cc; have y4:w3.cell? ⟨gc,t,none⟩=some (.int .i64 oldc):=(hb3.cell (p:=⟨gc,t,none⟩) lc).trans cd; have y5:w3.frozen? ⟨gc,t,none⟩=false:=(hb3.frozen (p:=⟨gc,t,none⟩) lc).trans cf; have y6:gc < w3.heap.size:=Nat.lt_of_lt_of_le lc hb3.size; have y7:(w3.setCell ⟨gc,t,none⟩ (.int .i64 (P+V))).cell? ⟨gc,t+1,none⟩=some (.int .i64 V):=(World.cell?_setCell_other _ _ _ _ hta).trans y3; skip))
   have HS2:Hid (ChSt w (w3.setCell ⟨gc,t,none⟩ (.int .i64 (P+V))) gc gt w.heap.size s.size (upd C t (P+V)) (updT F t (x,0,0))):=((HS1.out.called ((Below.refl _ _).drew)).called hb3).setC t (by omega) _
   clear b0 b1 b2 cc cd cf lc lt' hne hcost z1 z2 z3 z4 z5 z6 z7 z8 z9 z10 hta y0 y1 y2 y3 y4 y5 y6 y7 hb3 HS1
   generalize w3.setCell ⟨gc,t,none⟩ (.int .i64 (P+V))=W2 at HS2
   have hbm:=specBest_in s t ch W2 hts hs2 (by omega) (by omega)
   obtain⟨Q,hQ⟩:∃ Q,Q=bestM (txt s) s.size t ch:=⟨_,rfl⟩
   have hQl:Q.1≤258∧Q.2≤t:=by rw [hQ]; exact best_le
   have hQin:t+Q.1≤s.size:=by
    rw[hQ]
    rcases best_fact (f:=txt s) (N:=s.size) t ch with q | q
    ·rw[q]
     show t+0≤s.size
     omega
    ·exact q.1.2.2.1
   rw[← hQ] at hbm
   have HQ:=hid_of hQ
   clear hQ
   obtain⟨n1,d1⟩:=Q
   have hn1:n1≤258:=hQl.1
   have hd1:d1≤t:=hQl.2
   have hin:t+n1≤s.size:=hQin
   clear hQl hQin
   go_wp2_with fail
   refine hbm.mono ?_
   rintro e w4 ⟨rfl,hB4⟩
   clear hbm
   have HA0:Hid (ChSt w w4 gc gt w.heap.size s.size (upd C t (pickK C t d1 (P+V,(x,0,0)) 0).1) (updT F t (pickK C t d1 (P+V,(x,0,0)) 0).2)):=HS2.out.called hB4
   clear hB4 HS2
   go_wp2_with fail
   go_loopg [13] 300 (fun gk k w'=>∃ (j:Nat),j≤n1 - 2∧300 - (3+j)≤gk∧k=.int .i64 (3+(j:Int))∧Hid (ChSt w w' gc gt w.heap.size s.size (upd C t (pickK C t d1 (P+V,(x,0,0)) j).1) (updT F t (pickK C t d1 (P+V,(x,0,0)) j).2)))
   case atStart=>exact⟨0,by omega,by omega,rfl,HA0⟩
   case round=>
    clear HA0
    obtain⟨j,hj,hgj,rfl,hA⟩:=hrel
    by_cases hjl:3+j≤n1
    ·have dj:decide ((3:Int)+(j:Int)≤(n1:Int))=true:=decide_eq_true (by omega)
     have dj':(3:Int)+(j:Int)≤(n1:Int):=by omega
     obtain⟨acc,hacc⟩:∃ acc,acc=pickK C t d1 (P+V,(x,0,0)) j:=⟨_,rfl⟩
     rw[← hacc] at hA
     have HAC:Hid (pickK C t d1 (P+V,(x,0,0)) (j+1)=if costT (0,3+(j:Int),(d1:Int))+C (t+(3+j)) < acc.1 then (costT (0,3+(j:Int),(d1:Int))+C (t+(3+j)),(0,3+(j:Int),(d1:Int))) else acc):=by
      rw[hacc]
      rfl
     clear hacc
     have HA1:=hid_of (hA.out.called (bstart wr (.cells #[.int .i64 0,.int .i64 (3+(j:Int)),.int .i64 (d1:Int)] 105)))
     have bx:=heap_alloc_new wr (.cells #[.int .i64 0,.int .i64 (3+(j:Int)),.int .i64 (d1:Int)] 105)
     obtain⟨WA,hWA⟩:∃ WA,WA=wr.alloc (.cells #[.int .i64 0,.int .i64 (3+(j:Int)),.int .i64 (d1:Int)] 105):=⟨_,rfl⟩
     rw[← hWA] at HA1 bx
     have HWA:=hid_of hWA
     clear hWA
     have ux:upd C t acc.1 (t+(3+j))=C (t+(3+j)):=by
      unfold upd
      rw[if_neg (by omega)]
     have hbg:∀ n' os,Below WA.heap.size WA (grow (WA.drewN n') os):=fun n' os=>below_grow7 n' os
     have lb:=block_lt bx
     have lc:=HA1.out.1.lt
     have k0:=fun n' os=>((hbg n' os).cell (p:=⟨wr.heap.size,0,none⟩) lb).trans (cell_of_block bx 0)
     have k1:=fun n' os=>((hbg n' os).cell (p:=⟨wr.heap.size,1,none⟩) lb).trans (cell_of_block bx 1)
     have k2:=fun n' os=>((hbg n' os).cell (p:=⟨wr.heap.size,2,none⟩) lb).trans (cell_of_block bx 2)
     have k3:=fun n' os=>((hbg n' os).cell (p:=⟨gc,t+(3+j),none⟩) lc).trans (HA1.out.1.cell (t+(3+j)) (by omega))
     rw[ux] at k3
     clear ux
     have hcb:=fun (n':Nat) (os:Array Obj)=>specCost7 0 (3+(j:Int)) (d1:Int) (grow (WA.drewN n') os)
     have hCr:=HCB.out (t+(3+j)) (by omega)
     have hTr:=cost_range (0,3+(j:Int),(d1:Int))
     have HNE:Hid (wr.heap.size≠gc∧wr.heap.size≠gt):=by
      have q1:=hA.out.1.lt
      have q2:=hA.out.2.1.lt
      exact⟨by omega,by omega⟩
     generalize costT (0,3+(j:Int),(d1:Int))=T1 at HAC hcb hTr
     generalize C (t+(3+j))=V1 at HAC k3 hCr
     have z1:(0:Int)≤(t:Int)+(3+(j:Int)):=by omega
     have z2:(t:Int)+(3+(j:Int)) < ((s.size+1:Nat):Int):=by omega
     have z3:((t:Int)+(3+(j:Int))).toNat=t+(3+j):=by omega
     have z4:(t:Int)+(3+(j:Int)) < (s.size:Int)+1:=by omega
     have z5:IntKind.i64.wrap ((t:Int)+(3+(j:Int)))=(t:Int)+(3+(j:Int)):=by
      rw[IntKind.wrap_i64]
      omega
     have z6:IntKind.i64.wrap (T1+V1)=T1+V1:=by
      rw[IntKind.wrap_i64]
      omega
     have HBG:=hid_of hbg
     clear hbg
     go_wp2_with fail
     rw[← HWA.out]
     clear HWA
     go_quiet_grown (refine Calls.grown_of (hcb _ _))
     have HN:=hid_of (HBG.out nq osq)
     clear k0 k1 k2 k3 hcb HBG z1 z2 z3 z4 z5 z6
     have HA5:Hid (ChSt w (grow (WA.drewN nq) osq) gc gt w.heap.size s.size (upd C t acc.1) (updT F t acc.2)):=HA1.out.called HN.out
     have bx5:=(HN.out.block _ lb).trans bx
     generalize grow (WA.drewN nq) osq=W5 at HN HA5 bx5
     have ut:upd C t acc.1 t=acc.1:=by
      unfold upd
      rw[if_pos rfl]
     have cd:=HA5.out.1.cell t (by omega)
     rw[ut] at cd
     clear ut
     have y0:(t:Int) < (s.size:Int)+1:=by omega
     by_cases hless:T1+V1 < acc.1
     ·have dl:decide (T1+V1 < acc.1)=true:=decide_eq_true hless
      have cf:=HA5.out.1.free t (by omega)
      have lc5:=HA5.out.1.lt
      have HA6:=hid_of (HA5.out.setC t (by omega) (T1+V1))
      have ne1:=HNE.out.1
      have bx6:(W5.setCell ⟨gc,t,none⟩ (.int .i64 (T1+V1))).heap[wr.heap.size]?=some (.cells #[.int .i64 0,.int .i64 (3+(j:Int)),.int .i64 (d1:Int)] 105 (0,0)):=(Below.heap_setCell _ _ _ _ ne1).trans bx5
      have q0:=cell_of_block bx6 0
      have q1:=cell_of_block bx6 1
      have q2:=cell_of_block bx6 2
      have lq:=block_lt bx6
      obtain⟨r0,r1,r2⟩:=HA6.out.tok t hts
      have fz:=HA6.out.2.1.free
      have lt6:=HA6.out.2.1.lt
      have HA7:=hid_of (HA6.out.setT t hts 0 (3+(j:Int)) (d1:Int))
      have HA8:Hid (ChSt w ((((W5.setCell ⟨gc,t,none⟩ (.int .i64 (T1+V1))).setCell ⟨gt,t * 3,none⟩ (.int .i64 0)).setCell ⟨gt,t * 3+1,none⟩ (.int .i64 (3+(j:Int)))).setCell ⟨gt,t * 3+2,none⟩ (.int .i64 (d1:Int))) gc gt w.heap.size s.size (upd C t (pickK C t d1 (P+V,(x,0,0)) (j+1)).1) (updT F t (pickK C t d1 (P+V,(x,0,0)) (j+1)).2)):=by
       refine HA7.out.congr (fun i _=>?_) (fun i _=>?_)
       ·rw[HAC.out,if_pos hless]
        unfold upd
        by_cases e:i=t
        ·rw[if_pos e,if_pos e]
        ·rw[if_neg e,if_neg e,if_neg e]
       ·rw[HAC.out,if_pos hless]
        unfold updT
        by_cases e:i=t
        ·rw[if_pos e,if_pos e]
        ·rw[if_neg e,if_neg e,if_neg e]
      generalize updT F t acc.2 t=old2 at r0 r1 r2
      clear HAC HA7 HA5 HA6 HNE bx bx5 bx6 HN HA1
      go_wp2_with fail
      go_roundg (300 - (3+(j+1)))
      case measure=>omega
      case rel=>exact⟨j+1,by omega,Nat.le_refl _,by first | go_num | (congr 1; omega),HA8⟩
     ·have dl:decide (T1+V1 < acc.1)=false:=decide_eq_false hless
      have HA8:Hid (ChSt w W5 gc gt w.heap.size s.size (upd C t (pickK C t d1 (P+V,(x,0,0)) (j+1)).1) (updT F t (pickK C t d1 (P+V,(x,0,0)) (j+1)).2)):=by
       rw[HAC.out,if_neg hless]
       exact HA5
      clear HAC HA5 HNE bx bx5 HN HA1
      go_wp2_with fail
      go_roundg (300 - (3+(j+1)))
      case measure=>omega
      case rel=>exact⟨j+1,by omega,Nat.le_refl _,by first | go_num | (congr 1; omega),HA8⟩
    ·have dj:decide ((3:Int)+(j:Int)≤(n1:Int))=false:=decide_eq_false (by omega)
     have dj':¬ (3:Int)+(j:Int)≤(n1:Int):=by omega
     have HZ:Hid (ChSt w wr gc gt w.heap.size s.size (fun i=>(tab (txt s) s.size ch (s.size - t) i).1) (fun i=>(tab (txt s) s.size ch (s.size - t) i).2)):=by
      have em:s.size - t=s.size - (t+1)+1:=by omega
      have key:∀ i,tab (txt s) s.size ch (s.size - t) i=if i=t then pickK C t d1 (P+V,(x,0,0)) (n1 - 2) else tab (txt s) s.size ch (s.size - (t+1)) i:=by
       intro i
       rw[em]
       show (if i=s.size - (s.size - (t+1)+1) then entry (txt s) s.size ch (fun j=>(tab (txt s) s.size ch (s.size - (t+1)) j).1) i else tab (txt s) s.size ch (s.size - (t+1)) i)=_
       rw[show s.size - (s.size - (t+1)+1)=t by omega]
       by_cases e:i=t
       ·rw[if_pos e,if_pos e,e,← HCE.out]
        unfold entry
        rw[← HQ.out,HP.out,HV.out,HX.out]
       ·rw[if_neg e,if_neg e]
      have hjn:j=n1 - 2:=by omega
      rw[hjn] at hA
      refine hA.out.congr (fun i _=>?_) (fun i _=>?_)
      ·rw[key]
       unfold upd
       by_cases e:i=t
       ·rw[if_pos e,if_pos e]
       ·rw[if_neg e,if_neg e,HCE.out]
      ·rw[key]
       unfold updT
       by_cases e:i=t
       ·rw[if_pos e,if_pos e]
       ·rw[if_neg e,if_neg e,HFE.out]
     clear hA HCE HFE HX HP HV HCB HQ
     go_wp2_with fail
     go_roundg t
     case measure=>omega
     case rel=>exact⟨t,Nat.le_refl _,by omega,rfl,HZ⟩
theorem specCheap:WayAnswer 43 cheapL:=by
 intro s c w hs _
 refine⟨fun hR=>?_,fun hR=>?_⟩
 ·obtain⟨hs2,hc1,hc2⟩:=hR
  obtain⟨ch,rfl⟩:=Int.eq_ofNat_of_zero_le (show 0≤c by omega)
  exact specCheap_right s ch w hs2 hc1 hc2
 ·have hok:=wayOk_no s c (w.alloc (.cells #[] 105)) hs hR
  have HB:=hid_of (bstart w (.cells #[] 105))
  have hlz:w.heap.size < (w.alloc (.cells #[] 105)).heap.size:=by simp
  have HLZ:=hid_of hlz
  clear hlz
  go_enter Tryz.func43,Tryz.ntmps43
  go_wp2_with fail
  refine hok.mono ?_
  rintro e w1 ⟨rfl,rfl⟩
  clear hok
  go_wp2_with fail
  go_ret2
  exact⟨_,_,rfl,fun g off e=>by cases e; exact HLZ.out,HB.out⟩
end Go.Proofs.YtklpiihnbokkkaaGreatDoor
