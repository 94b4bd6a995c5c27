/-
  Texts of the proof, put together.
-/
import Derived.Test.YtklpiihnbokkkaaGreatDoorFk37
namespace Go.Proofs.YtklpiihnbokkkaaGreatDoor
open Go.RowKit Go.Joins Go.Sort PackageMath
theorem info_list:(Tryz.prog.info? 270).map (fun i=>(i.zero,i.size,i.bytes))=some (some (.slice none 0 0),1,24):=by kernel_rfl
def LisV (w w':World) (X:List Coin) (v:Value) (k:Nat) (vs:List Value):Prop:=vs.length=k∧w'.ownsRow w.heap.size 270 1 v k vs∧(∀ i,i < k→Elt w' (vs.getD i undef) (lists X i))∧Below w.heap.size w w'
theorem lis_one {w:World} {X:List Coin} {a:Option Addr} {c:Nat} (h:Elt w (.slice a X.length c) X):LisV w (w.alloc (.cells #[.slice a X.length c] 270)) X (.slice (some ⟨w.heap.size,0,none⟩) 1 1) 1 [.slice a X.length c]:=by
 refine⟨rfl,⟨rfl,.inr ⟨w.heap.size,1,#[.slice a X.length c],rfl,Nat.le_refl _,heap_alloc_new w _,Nat.le_refl _,by unfold maxLen; omega,rfl,rfl⟩⟩,fun i hi=>?_,bstart _ _⟩
 obtain rfl:i=0:=by omega
 exact h.called (bstart _ _)
theorem lis_next {w w1 w2 w3:World} {X:List Coin} {v v' u:Value} {k:Nat} {vs:List Value} {o:Obj} (h:LisV w w1 X v k vs) (hb:Below w1.heap.size w1 w2) (hu:Elt w2 u (lists X k)) (hown:w3.ownsRow w.heap.size 270 1 v' (k+1) (vs ++ [u])) (hg:(w2.alloc o).grownBy w3 v.ownBlock):LisV w w3 X v' (k+1) (vs ++ [u]):=by
 obtain⟨h1,h2,h3,h4⟩:=h
 have hs:=h4.size
 have hs2:=hb.size
 have hsp:∀ g,v.ownBlock=some g→∃ cur,w1.heap[g]?=some (Obj.cells cur 270 (0,0)):=by
  intro g e
  rcases h2.2 with ⟨rfl,_⟩ | ⟨g',cap,cur,rfl,_,hg',_⟩
  ·cases e
  ·simp[Value.ownBlock] at e
   subst e
   exact⟨cur,hg'⟩
 have hkeep:∀ (g:Nat) cur fz,w2.heap[g]?=some (Obj.cells cur 274 fz)→w3.heap[g]?=w2.heap[g]?:=by
  intro g cur fz hgc
  have hlt:=block_lt hgc
  refine (hg.block g (by simp; omega) (fun e=>?_)).trans (Below.heap_alloc w2 o g hlt)
  obtain⟨c2,hc2⟩:=hsp g e.symm
  have:=(hb.block g (block_lt hc2)).trans hc2
  rw[hgc] at this
  simp at this
 have hsz:w2.heap.size≤w3.heap.size:=by
  have:=hg.size
  simp at this
  omega
 refine⟨by simp [h1],hown,fun i hi=>?_,(bal (bnext h4 (hb.mono (Nat.le_refl _))) o).grown hg (by simp; omega) (fun q hq=>(h2.lt q hq).1)⟩
 by_cases e:i < k
 ·rw[List.getD_eq_getElem?_getD,List.getElem?_append_left (by omega),← List.getD_eq_getElem?_getD]
  exact ((h3 i e).called hb).keep hsz hkeep
 ·obtain rfl:i=k:=by omega
  rw[List.getD_eq_getElem?_getD,List.getElem?_append_right (by omega),h1,Nat.sub_self]
  exact hu.keep hsz hkeep
theorem lis_at {w w':World} {X:List Coin} {g k c:Nat} {vs:List Value} (h:LisV w w' X (.slice (some ⟨g,0,none⟩) k c) k vs) (i:Nat) (hi:i < k):g < w'.heap.size∧w'.cell? ⟨g,i,none⟩=some (vs.getD i undef)∧Elt w' (vs.getD i undef) (lists X i):=by
 obtain⟨h1,h2,h3,h4⟩:=h
 refine⟨(h2.lt g rfl).2,?_,h3 i hi⟩
 rw[h2.cellAt i (by omega),List.getD_eq_getElem?_getD,List.getElem?_eq_getElem (by omega)]
 rfl
theorem rows_append {w:World} {S:Nat} {v:Value} {xs:List Value} {k:Nat} {u:Value} {ops:Array Oper} {rest:List Oper} {o:Oper} {a:Act} {Q:Exit→Act→World→Prop} (hgd:o.guard=none) (s x:Operand)
  (ho:o.op=.call { callee:=.builtin .append,args:=#[s,x],argTypes:=#[276,276] }) (hs:a.eval s=v) (h:w.ownsRow S 270 1 v k xs) (ad:Addr) (hx:a.eval x=.slice (some ad) 1 1)
  (hc:w.cell? ad=some u) (had:ad.spot=none) (h1:u.oneCell'=true) (h63:k≤100000) (hS:S≤w.heap.size)
  (hK:∀ v' w',w'.ownsRow S 270 1 v' (k+1) (xs ++ [u])→w.grownBy w' v.ownBlock→wpList Tryz.prog ops Q rest (a.put o.dst v') w'):wpList Tryz.prog ops Q (o :: rest) a w:=by
 obtain⟨i0,hi0,hz0,hz1,hz2⟩:=info_parts info_list
 refine wpList_append_own_at w hgd s x _ ho S 270 i0 _ 1 24 Tryz.underlying276 hi0 hz0 hz1 hz2 rfl (by omega) v _ _ hs h ad 1 1 [u] hx rfl (fun j q hq=>?_) (fun q hq=>?_) (by unfold maxLen; omega) (by omega) hS ?_
 ·cases j with
  | zero=>
   cases hq
   obtain⟨b,off,sp⟩:=ad
   cases had
   rw[Addr.add_lit]
   exact hc
  | succ j=>cases hq
 ·obtain rfl:q=u:=by simpa using hq
  exact h1
 ·intro v' w' hown hg _ _
  exact hK v' w' hown hg
def Tame (X:List Coin):Prop:=X.length≤288∧Leafy X∧∀ x∈X,SmallK 0 x
theorem tame_at {X:List Coin} (h:Tame X) (k:Nat) (hk:k≤14):(lists X k).length≤576∧(∀ x∈lists X k,0≤x.1∧x.1≤1000000000)∧∀ x∈pairs (lists X k),2≤x.2.length:=by
 refine⟨?_,fun x hx=>?_,pair_parts h.2.1 k⟩
 ·have:=lists_short X k
  have:=h.1
  omega
 ·have:=smallK_bd hk (lists_small h.2.2 k x hx)
  omega
set_option maxHeartbeats 1600000 in
theorem coinLists_any (a:Option Addr) (c:Nat) (X:List Coin) (z:Nat) (w:World) (hX:Elt w (.slice a X.length c) X) (hT:Tame X) (hz1:1≤z) (hz2:z≤15):
  Calls Tryz.prog 197 #[.slice a X.length c,.int .i64 z] w fun e w'=>∃ g c' vs,e=.returned (.slice (some ⟨g,0,none⟩) z c')∧LisV w w' X (.slice (some ⟨g,0,none⟩) z c') z vs:=by
 have HX:=hid_of hX
 have HT:=hid_of hT
 have hXn:X.length≤1000:=by have:=hT.1; omega
 have H0:=hid_of (lis_one hX)
 clear hX hT
 go_enter Tryz.func197,Tryz.ntmps197
 go_wp2_with fail
 go_loopg [5] 16 (fun gk v w'=>∃ (k g d:Nat) (vs:List Value),v=.slice (some ⟨g,0,none⟩) k d∧1≤k∧k≤z∧16 - k≤gk∧Hid (LisV w w' X v k vs))
 case atStart=>exact⟨1,w.heap.size,1,_,rfl,Nat.le_refl _,hz1,by omega,H0⟩
 case round=>
  clear H0
  obtain⟨k,g,d,vs,rfl,hk1,hk2,hk3,hS⟩:=hrel
  by_cases hlt:k < z
  ·obtain⟨q,rfl⟩:∃ q,k=q+1:=⟨k - 1,by omega⟩
   obtain⟨l1,l2,l3⟩:=lis_at hS.out q (by omega)
   obtain⟨a1,c1,hu,hL,hTL,hc1⟩:=l3
   rw[hu] at l2
   have HL:=hid_of hL
   have HC1:=hid_of hc1
   have HTA:=hid_of (tame_at HT.out q (by omega))
   have hqn:(lists X q).length≤576:=HTA.out.1
   obtain⟨n1,hn1⟩:∃ n1,n1=(lists X q).length:=⟨_,rfl⟩
   rw[← hn1] at l2 hqn
   have HN1:=hid_of hn1
   clear hu hL hTL hc1 hn1
   have q1:((q:Int)+1).toNat=q+1:=by omega
   have q2:IntKind.i64.wrap (q:Int)=(q:Int):=by rw [IntKind.wrap_i64]; omega
   have q3:(q:Int)+1 - 1=(q:Int):=by omega
   have dk:decide ((q:Int)+1 < (z:Int))=true:=decide_eq_true (by omega)
   go_wp2_with fail
   have hp:=paired_any a1 c1 (lists X q) wr HL.out (by have:=HTA.out.1; omega) HTA.out.2.1 HTA.out.2.2
   rw[← pairs_length,← HN1.out] at hp
   refine hp.mono ?_
   rintro e w1 ⟨rfl,y1,y2⟩
   clear hp
   have HB1:=hid_of y2
   have HE1:=hid_of (elt_of_own y1 rfl)
   have HX1:Hid (Elt w1 (.slice a X.length c) X):=HX.out.called (bnext hS.out.2.2.2 y2)
   clear y1 y2
   obtain⟨ax,cx,ex,hLx,_,hcx⟩:=HX1.out
   obtain⟨ay,cy,ey,hLy,_,hcy⟩:=HE1.out
   cases ex
   cases ey
   have HLx:=hid_of hLx
   have HLy:=hid_of hLy
   have HPL:Hid ((pairs (lists X q)).length≤1000):=by
    have:=pairs_length (lists X q)
    have:=HTA.out.1
    show _≤_
    omega
   clear hLx hLy
   go_wp2_with fail
   refine (merged_any a (some ⟨wr.heap.size,0,none⟩) c _ X (pairs (lists X q)) w1 HLx.out HLy.out hXn HPL.out hcx hcy).mono ?_
   rintro e w2 ⟨v2,rfl,y1,y2⟩
   have HE2:Hid (Elt w2 v2 (lists X (q+1))):=elt_of_own y1 rfl
   have HB2:=hid_of (bnext HB1.out y2)
   clear y1 y2
   obtain⟨a2,c2,e2,_⟩:=HE2.out
   obtain⟨n2,hn2⟩:∃ n2,n2=(lists X (q+1)).length:=⟨_,rfl⟩
   rw[← hn2] at e2
   subst e2
   clear hn2
   have hs:=hS.out.2.2.2.size
   have hs2:=HB2.out.size
   have HO:Hid ((w2.alloc (.cells #[.slice a2 n2 c2] 270)).ownsRow w.heap.size 270 1 (.slice (some ⟨g,0,none⟩) (q+1) d) (q+1) vs):=by
    refine World.ownsRow.alloc ?_ _
    have h:=hS.out.2.1
    refine⟨h.1,?_⟩
    rcases h.2 with h | ⟨g',cap,cur,e,p1,p2,p3⟩
    ·exact .inl h
    ·exact .inr ⟨g',cap,cur,e,p1,(HB2.out.block g' (block_lt p2)).trans p2,p3⟩
   go_wp2_with (at_builtin; refine rows_append (u:=.slice a2 n2 c2) rfl _ _ rfl rfl HO.out ⟨w2.heap.size,0,none⟩ rfl (by simp) rfl rfl (by omega) (by simp; omega) ?_)
   intro v3 w3 y1 y2
   have HS1:Hid (LisV w w3 X v3 (q+1+1) (vs ++ [.slice a2 n2 c2])):=lis_next hS.out HB2.out HE2.out y1 y2
   clear y1 y2
   obtain⟨g3,d3,e3,_⟩:=HS1.out.2.1.form (by omega)
   subst e3
   go_wp2_with fail
   go_roundg (16 - (q+1+1))
   case measure=>omega
   case rel=>exact⟨q+1+1,g3,d3,_,rfl,by omega,by omega,Nat.le_refl _,HS1⟩
  ·obtain rfl:k=z:=by omega
   have HZ:=hid_of hS.out
   go_wp2_with fail
   go_ret
   exact⟨g,d,vs,rfl,HZ.out⟩
end Go.Proofs.YtklpiihnbokkkaaGreatDoor
namespace Go.Proofs.YtklpiihnbokkkaaGreatDoor
open Go.RowKit Go.Joins PackageMath
def Keeps (w w':World):Prop:=w.heap.size≤w'.heap.size∧∀ (g:Nat) cur T fz,T≠3→w.heap[g]?=some (Obj.cells cur T fz)→w'.heap[g]?=w.heap[g]?
def AddSt (w w':World) (base gL n:Nat) (lens:Nat→Int):Prop:=IOwn w' base gL n n lens∧Keeps w w'∧Below gL w w'
def rem (X:List Coin) (t:Nat) (i:Nat):Nat→Int
 | 0=>0
 | m+1=>sm (ct i) ((lists X m).take t)
def AddO (w w':World) (base gL n:Nat) (X:List Coin) (T:Nat→Int) (z m t:Nat):Prop:=(∀ q,m=q+1→t≤(lists X q).length)∧∃ lens,AddSt w w' base gL n lens∧∀ i,i < n→lens i+rem X t i m=T i∧0≤lens i∧lens i≤600 * ((z - m:Nat):Int)
def AddI (w w':World) (base gL n:Nat) (X:List Coin) (T:Nat→Int) (z m t j p:Nat) (lens:Nat→Int):Prop:=AddSt w w' base gL n lens∧sm isP ((lists X m).take j)=(p:Int)∧∀ i,i < n→lens i+rem X t i (m+1)=T i+sm (lf i) ((lists X m).take j)∧0≤lens i∧lens i≤600 * ((z - (m+1):Nat):Int)+j
theorem add_box {w w':World} {base gL n:Nat} {lens:Nat→Int} (h:AddSt w w' base gL n lens) (o:Obj):AddSt w (w'.alloc o) base gL n lens:=by
 have hl:=h.1.lt
 have h1:=h.2.1.1
 refine⟨h.1.alloc o,⟨by simp; omega,fun g cur T fz hT hg=>?_⟩,h.2.2.alloc (by omega) o⟩
 have hlt:=block_lt hg
 rw[Below.heap_alloc _ _ _ (by omega)]
 exact h.2.1.2 g cur T fz hT hg
theorem own_typed {w:World} {base g n cap:Nat} {f:Nat→Int} (h:IOwn w base g n cap f):∃ cur fz,w.heap[g]?=some (Obj.cells cur 3 fz):=by
 obtain⟨c,cur,fz,h1,h2,h3,_⟩:=h
 exact⟨cur,fz,h3⟩
theorem add_one {w w':World} {base gL n s:Nat} {lens:Nat→Int} (h:AddSt w w' base gL n lens) (hs:s < n) (x:Int):AddSt w (w'.setCell ⟨gL,s,none⟩ (.int .i64 x)) base gL n (upd lens s x):=by
 obtain⟨cur0,fz0,hc0⟩:=own_typed h.1
 refine⟨h.1.set s hs x,⟨by simpa using h.2.1.1,fun g cur T fz hT hg=>?_⟩,h.2.2.setCell (p:=⟨gL,s,none⟩) (Nat.le_refl _) _⟩
 have hk:=h.2.1.2 g cur T fz hT hg
 rw[Below.heap_setCell _ _ _ _ (show g≠gL from fun e=>by
  subst e
  rw[hk,hg] at hc0
  simp at hc0
  exact hT hc0.2.1)]
 exact hk
theorem add_pair {w w' w2:World} {base gL n z m t j p:Nat} {X:List Coin} {T lens:Nat→Int} (h:AddI w w' base gL n X T z m t j p lens) (hj:j < (lists X m).length) (hs:sy ((lists X m).getD j (0,[]))=-1) (h2:AddSt w w2 base gL n lens):AddI w w2 base gL n X T z m t (j+1) (p+1) lens:=by
 obtain⟨_,k2,k3⟩:=h
 refine⟨h2,?_,fun i hi=>?_⟩
 ·rw[sm_succ _ _ _ hj,k2]
  unfold isP
  rw[if_pos hs]
  omega
 ·obtain⟨q1,q2,q3⟩:=k3 i hi
  rw[sm_succ _ _ _ hj]
  have:lf i ((lists X m).getD j (0,[]))=0:=by unfold lf; rw [hs,if_neg (by omega)]
  rw[this]
  refine⟨by omega,q2,by omega⟩
theorem add_leaf {w w' w2:World} {base gL n z m t j p s:Nat} {X:List Coin} {T lens:Nat→Int} (h:AddI w w' base gL n X T z m t j p lens) (hj:j < (lists X m).length) (hs:sy ((lists X m).getD j (0,[]))=(s:Int)) (h2:AddSt w w2 base gL n (upd lens s (lens s+1))):AddI w w2 base gL n X T z m t (j+1) p (upd lens s (lens s+1)):=by
 obtain⟨_,k2,k3⟩:=h
 refine⟨h2,?_,fun i hi=>?_⟩
 ·rw[sm_succ _ _ _ hj,k2]
  unfold isP
  rw[if_neg (by omega)]
  omega
 ·obtain⟨q1,q2,q3⟩:=k3 i hi
  rw[sm_succ _ _ _ hj]
  by_cases e:i=s
  ·have h1:lf i ((lists X m).getD j (0,[]))=1:=by unfold lf; rw [hs,if_pos (by omega)]
   have h3:upd lens s (lens s+1) i=lens i+1:=by unfold upd; rw [if_pos e,e]
   rw[h1,h3]
   refine⟨by omega,by omega,by omega⟩
  ·have h1:lf i ((lists X m).getD j (0,[]))=0:=by unfold lf; rw [hs,if_neg (by omega)]
   have h3:upd lens s (lens s+1) i=lens i:=by unfold upd; rw [if_neg e]
   rw[h1,h3]
   refine⟨by omega,q2,by omega⟩
theorem add_down {w w' : World} {base gL n z m t p : Nat} {X : List Coin} {T lens : Nat → Int} (hX : Leafy X) (hm : m + 1 ≤ z) (hl : t ≤ 600) (h : AddI w w' base gL n X T z m t t p lens) (ht : t ≤ (lists X m).length) : AddO w w' base gL n X T z m (2 * p) := by
  obtain ⟨k1, k2, k3⟩ := h
  have hz : ((z - m : Nat) : Int) = ((z - (m + 1) : Nat) : Int) + 1 := by omega
  cases m with
  | zero =>
    obtain ⟨_, e2⟩ := level_zero hX t
    refine ⟨fun q e => by omega, lens, k1, fun i hi => ?_⟩
    obtain ⟨q1, q2, q3⟩ := k3 i hi
    have e3 := e2 i
    refine ⟨?_, q2, by omega⟩
    show lens i + 0 = T i
    have q1' : lens i + sm (ct i) (X.take t) = T i + sm (lf i) (X.take t) := q1
    omega
  | succ m =>
    obtain ⟨b, e1, e2, e3⟩ := level_step hX m t ht
    have hb : b = p := by
      rw [e1] at k2
      omega
    subst hb
    refine ⟨fun q e => by obtain rfl : q = m := by omega
                          exact e2, lens, k1, fun i hi => ?_⟩
    obtain ⟨q1, q2, q3⟩ := k3 i hi
    have e4 := e3 i
    refine ⟨?_, q2, by omega⟩
    show lens i + sm (ct i) ((lists X m).take (2 * b)) = T i
    have q1' : lens i + sm (ct i) ((lists X (m + 1)).take t) = T i + sm (lf i) ((lists X (m + 1)).take t) := q1
    omega
theorem add_in {w w':World} {base gL n z m t:Nat} {X:List Coin} {T:Nat→Int} (h:AddO w w' base gL n X T z (m+1) t):t≤(lists X m).length∧∃ lens,AddI w w' base gL n X T z m t 0 0 lens:=by
 obtain⟨h1,lens,h2,h3⟩:=h
 refine⟨h1 m rfl,lens,h2,rfl,fun i hi=>?_⟩
 obtain⟨q1,q2,q3⟩:=h3 i hi
 refine⟨?_,q2,by omega⟩
 show lens i+rem X t i (m+1)=T i+0
 omega
theorem spine_at {wA w w':World} {X:List Coin} {gS z cS:Nat} {vs:List Value} (h:LisV wA w X (.slice (some ⟨gS,0,none⟩) z cS) z vs) (hk:Keeps w w') (i:Nat) (hi:i < z):gS < w'.heap.size∧w'.cell? ⟨gS,i,none⟩=some (vs.getD i undef)∧Elt w' (vs.getD i undef) (lists X i):=by
 obtain⟨l1,l2,l3⟩:=lis_at h i hi
 refine⟨Nat.lt_of_lt_of_le l1 hk.1,?_,l3.keep hk.1 (fun g cur fz hg=>hk.2 g cur _ fz (by decide) hg)⟩
 rcases h.2.1.2 with ⟨e,_⟩ | ⟨g,cap,cur,e,_,hg,_⟩
 ·cases e
 ·cases e
  exact (World.cell?_of_block (w:=w) (hk.2 gS cur _ _ (by decide) hg)).trans l2
set_option maxHeartbeats 4000000 in
theorem addTaken_any (wA : World) (base gL n gS cS z t : Nat) (X : List Coin) (vs : List Value) (w : World) (hL : LisV wA w X (.slice (some ⟨gS, 0, none⟩) z cS) z vs) (hI : IOwn w base gL n n (fun _ => 0)) (hT : Tame X) (hsy : ∀ x ∈ X, ∀ s ∈ x.2, s < n) (_hn : n ≤ 288) (hz1 : 1 ≤ z) (hz2 : z ≤ 15) (ht : t ≤ (lists X (z - 1)).length) :
    Calls Tryz.prog 196 #[.slice (some ⟨gL, 0, none⟩) n n, .slice (some ⟨gS, 0, none⟩) z cS, .int .i64 t] w fun e w' => e = .returned (.tuple #[]) ∧ IOwn w' base gL n n (fun i => sm (ct i) ((lists X (z - 1)).take t)) ∧ Below gL w w' := by
  have HL := hid_of hL
  have HT := hid_of hT
  have HSY := hid_of hsy
  have H0 : Hid (AddO w w base gL n X (fun i => sm (ct i) ((lists X (z - 1)).take t)) z z t) := by
    refine ⟨fun q e => by obtain rfl : q = z - 1 := by omega
                          exact ht, fun _ => 0, ⟨hI, ⟨Nat.le_refl _, fun _ _ _ _ _ _ => rfl⟩, Below.refl _ _⟩, fun i hi => ⟨?_, Int.le_refl _, by show (0 : Int) ≤ _; omega⟩⟩
    obtain ⟨q, rfl⟩ : ∃ q, z = q + 1 := ⟨z - 1, by omega⟩
    show (0 : Int) + sm (ct i) ((lists X q).take t) = sm (ct i) ((lists X (q + 1 - 1)).take t)
    rw [Nat.add_sub_cancel]
    omega
  have ht2 : t ≤ 576 := by have := (tame_at hT (z - 1) (by omega)).1; omega
  generalize hTT : (fun i => sm (ct i) ((lists X (z - 1)).take t)) = TT at H0 ⊢
  clear hTT hL hI hT hsy ht
  go_enter Tryz.func196, Tryz.ntmps196
  go_wp2_with fail
  go_loopg [2, 6] 16 (fun gk zt zl w' => ∃ m t : Nat, zt = .int .i64 t ∧ zl = .int .i64 ((m : Int) - 1) ∧ m ≤ z ∧ m ≤ gk ∧ t ≤ 576 ∧ Hid (AddO w w' base gL n X TT z m t))
  case atStart => exact ⟨z, t, rfl, rfl, Nat.le_refl _, by omega, ht2, H0⟩
  case round =>
    clear H0 ht2
    obtain ⟨m', t, rfl, rfl, hm1, hm2, hm3, hO⟩ := hrel
    cases m' with
    | zero =>
      have HZ : Hid (IOwn wr base gL n n TT ∧ Below gL w wr) := by
        obtain ⟨_, lens, k1, k2⟩ := hO.out
        refine ⟨k1.1.congr (fun i hi => ?_), k1.2.2⟩
        have := (k2 i hi).1
        have e : lens i + 0 = TT i := this
        omega
      go_wp2_with fail
      go_end0
      exact ⟨rfl, HZ.out⟩
    | succ m =>
      obtain ⟨hle, lens, hIn⟩ := add_in hO.out
      have HI0 := hid_of hIn
      obtain ⟨s1, s2, s3⟩ := spine_at HL.out hIn.1.2.1 m (by omega)
      obtain ⟨a1, c1, hu, hLs, _, hc1⟩ := s3
      rw [hu] at s2
      obtain ⟨n1, hn1⟩ : ∃ n1, n1 = (lists X m).length := ⟨_, rfl⟩
      have hn2 : n1 ≤ 576 := by have := (tame_at HT.out m (by omega)).1; omega
      have hle1 : t ≤ n1 := by omega
      have hcn : n1 ≤ c1 := by rw [hn1]; exact hLs.1
      rw [← hn1] at s2
      have HN1 := hid_of hn1
      unfold maxLen at hc1
      have m1 : ((m + 1 : Nat) : Int) - 1 = (m : Int) := by omega
      have HU := hid_of hu
      clear hIn hu hLs hle hO hn1
      rw [m1]
      have tc : (t : Int) ≤ (c1 : Int) := by omega
      go_wp2_with fail
      go_loopg [7, 24] 600 (fun gk zp zj w' => ∃ (j p : Nat) (lens : Nat → Int), zp = .int .i64 p ∧ zj = .int .i64 j ∧ j ≤ t ∧ p ≤ j ∧ t - j ≤ gk ∧ Hid (AddI w w' base gL n X TT z m t j p lens))
      case atStart => exact ⟨0, 0, lens, rfl, rfl, by omega, by omega, by omega, HI0⟩
      case round =>
        clear HI0
        obtain ⟨j, p, lens, rfl, rfl, hj1, hj2, hj3, hS⟩ := hrel
        by_cases hlt : j < t
        · have hnn := HN1.out
          obtain ⟨_, _, s3⟩ := spine_at HL.out hS.out.1.2.1 m (by omega)
          rw [HU.out] at s3
          obtain ⟨a1', c1', hv, hLs, _, _⟩ := s3
          cases hv
          obtain ⟨g, off, rfl, _, hg, hc⟩ := hLs.cell (by omega)
          obtain ⟨b0, b1⟩ := hc j (by omega)
          rw [← Nat.add_assoc] at b1
          have hsyj := lists_sy HT.out.2.1 HSY.out m _ (getD_mem (l := lists X m) (i := j) (by omega))
          have hgl := hS.out.1.1.lt
          clear hc hLs
          rcases hsyj with hp | ⟨hp0, hp1⟩
          · rw [hp] at b1
            obtain ⟨x, hx⟩ : ∃ x, x = ((lists X m).getD j (0, [])).1 := ⟨_, rfl⟩
            rw [← hx] at b0
            have HS1 := hid_of (add_pair hS.out (by omega) hp (add_box hS.out.1 (.cells #[.int .i64 x, .int .i64 (-1)] 274)))
            clear hp hnn hx
            go_wp2_with fail
            go_roundg (t - (j + 1))
            case measure => omega
            case rel => exact ⟨j + 1, p + 1, lens, by go_num, by go_num, by omega, by omega, Nat.le_refl _, HS1⟩
          · obtain ⟨s, hs⟩ := Int.eq_ofNat_of_zero_le hp0
            have hsn : s < n := by omega
            rw [hs] at b1
            obtain ⟨x, hx⟩ : ∃ x, x = ((lists X m).getD j (0, [])).1 := ⟨_, rfl⟩
            rw [← hx] at b0
            have k0 := hS.out.1.1.cell s hsn
            have k1 := hS.out.1.1.free s hsn
            have k2 := (hS.out.2.2 s hsn).2
            have HS1 := hid_of (add_leaf hS.out (by omega) hs (add_box (add_one hS.out.1 hsn (lens s + 1)) (.cells #[.int .i64 x, .int .i64 (s : Int)] 274)))
            have k3 : lens s ≤ 10000 := by omega
            have k4 := k2.1
            generalize hls : lens s = y at k0 k3 k4
            have HLS := hid_of hls
            rw [hls] at HS1
            have d1 : ((s : Int) == -1) = false := by simp
            clear hp0 hp1 hs hnn hx k2 hls
            go_wp2_with fail
            go_roundg (t - (j + 1))
            case measure => omega
            case rel => exact ⟨j + 1, p, _, by go_num, by go_num, by omega, by omega, Nat.le_refl _, HS1⟩
        · obtain rfl : j = t := by omega
          have HN : Hid (AddO w wr base gL n X TT z m (2 * p)) := add_down HT.out.2.1 hm1 (by omega) hS.out (by have := HN1.out; omega)
          have hp576 : 2 * p ≤ 576 ∨ m = 0 := by
            cases m with
            | zero => exact .inr rfl
            | succ q =>
              have h1 := HN.out.1 q rfl
              have h2 := (tame_at HT.out q (by omega)).1
              exact .inl (by omega)
          have hp0 : m = 0 → p = 0 := fun e => by
            subst e
            have h1 := (level_zero HT.out.2.1 j).1
            have h2 : sm isP (X.take j) = (p : Int) := hS.out.2.1
            omega
          have hpp : 2 * p ≤ 576 := by
            rcases hp576 with h | h
            · exact h
            · have := hp0 h; omega
          clear hp576 hp0
          go_wp2_with fail
          go_roundg m
          case measure => omega
          case rel => exact ⟨m, 2 * p, by first | rfl | go_num | (congr 1; omega), by first | rfl | go_num | (congr 1; omega), by omega, Nat.le_refl _, hpp, HN⟩
end Go.Proofs.YtklpiihnbokkkaaGreatDoor

namespace Go.Proofs.YtklpiihnbokkkaaGreatDoor
open Go.RowKit Go.Joins PackageMath
theorem first_tame {f:Nat→Int} {n:Nat} (hn:n≤288) (hf:∀ i,i < n→0≤f i∧f i≤12000):Tame (firstL f n):=by
 refine⟨?_,first_leafy,first_small hf⟩
 have h1:(firstL f n).length=posN f n:=first_length f n
 have h2:=raw_length f n
 have h3:=raw_short f n
 omega
theorem pos_le (f:Nat→Int) (n:Nat):posN f n≤n:=by
 have h2:=raw_length f n
 have h3:=raw_short f n
 omega
theorem pow_small:∀ z,z≤15→(2:Int) ^ z≤32768:=by decide
theorem pow_pos:∀ z,z≤15→1≤(2:Int) ^ z:=by decide
theorem wrap_pow (z:Nat) (h:z≤15):wrap64 ((2:Int) ^ z)=2 ^ z:=by
 have h1:=pow_small z h
 have h2:=pow_pos z h
 generalize (2:Int) ^ z=p at *
 unfold wrap64
 omega
set_option maxRecDepth 100000 in
set_option maxHeartbeats 4000000 in
theorem limit_in (a:Option Addr) (n cap:Nat) (f:Nat→Int) (z:Nat) (w:World) (hC:Came w a n f) (hn:n≤288) (hf:∀ i,i < n→0≤f i∧f i≤12000) (hz1:1≤z) (hz2:z≤15) (hp:(posN f n:Int)≤2 ^ z):
  Calls Tryz.prog 171 #[.slice a n cap,.int .i64 (z:Int)] w fun e w'=>∃ g,e=.returned (.tuple #[.slice (some ⟨g,0,none⟩) n n,.bool true])∧IOwn w' w.heap.size g n n (limLen f n z)∧Below w.heap.size w w':=by
 have HF:=hid_of hf
 have hsym:=symbols_good a n cap f w hC hn hf
 clear hC hf
 have d1:decide ((z:Int) < 1)=false:=decide_eq_false (by omega)
 have d2:decide ((15:Int) < (z:Int))=false:=decide_eq_false (by omega)
 have HP:=hid_of hp
 obtain⟨pz,hpz⟩:∃ p,p=(2:Int) ^ z:=⟨_,rfl⟩
 have ew:wrap64 ((2:Int) ^ z)=pz:=by rw [wrap_pow z hz2,hpz]
 obtain⟨m,hm⟩:∃ m,m=posN f n:=⟨_,rfl⟩
 have hpm:(m:Int)≤pz:=by rw [hm,hpz]; exact hp
 have d3:decide (pz < (m:Int))=false:=decide_eq_false (by omega)
 have hm288:m≤288:=by have:=pos_le f n; omega
 have HM:=hid_of hm
 clear hpz hp
 go_enter Tryz.func171,Tryz.ntmps171
 go_wp2_with fail
 refine hsym.mono ?_
 rintro e w1 ⟨v,rfl,hE,hB⟩
 clear hsym
 have HE:=hid_of hE
 have HB1:=hid_of hB
 obtain⟨a1,c1,hv,hLs,_⟩:=hE
 have hl:(firstL f n).length=m:=by rw [hm]; exact first_length f n
 have HLL:=hid_of hl
 have HLs:=hid_of hLs
 rw[hl] at hv
 subst hv
 have hmk:=make_ints w1 n (by omega)
 have HI:Hid (IOwn (w1.alloc (.cells (madeCells #[Value.int .i64 0] n) 3)) w.heap.size w1.heap.size n n (fun _=>0)):=IOwn.made (base:=w.heap.size) w1 n (by unfold maxLen; omega) hB.size
 have HB2:=hid_of (bstart w1 (.cells (madeCells #[Value.int .i64 0] n) 3))
 generalize w1.alloc (.cells (madeCells #[Value.int .i64 0] n) 3)=w2 at hmk HI HB2
 clear hB hl hm hLs
 by_cases hm0:m=0
 ·have HZ:Hid (IOwn w2 w.heap.size w1.heap.size n n (limLen f n z)∧Below w.heap.size w w2):=
   ⟨HI.out.congr (fun i _=>lim_none (by rw [← HM.out]; exact hm0) i),bnext HB1.out HB2.out⟩
  subst hm0
  go_wp2_with fail
  go_ret2
  exact⟨_,rfl,HZ.out⟩
 ·have e0:((m:Int) == 0)=false:=by simp; omega
  by_cases hm1:m=1
  ·subst hm1
   obtain⟨g,off,rfl,hg,hg2,hc⟩:=HLs.out.cell (by rw [HLL.out]; omega)
   obtain⟨c0,c1'⟩:=hc 0 (by rw [HLL.out]; omega)
   obtain⟨s,hs1,hs2,hs3⟩:=first_mem n _ (getD_mem (l:=firstL f n) (i:=0) (by rw [HLL.out]; omega))
   rw[hs3,sy_one] at c1'
   have k1:w2.cell? ⟨g,off+1,none⟩=some (.int .i64 (s:Int)):=(HB2.out.cell (p:=⟨g,off+1,none⟩) hg2).trans (by simpa using c1')
   have k2:g < w2.heap.size:=Nat.lt_of_lt_of_le hg2 HB2.out.size
   have k3:=HI.out.cell s hs1
   have k4:=HI.out.free s hs1
   have k5:=HI.out.lt
   have HZ:Hid (IOwn (w2.setCell ⟨w1.heap.size,s,none⟩ (.int .i64 1)) w.heap.size w1.heap.size n n (limLen f n z)∧Below w.heap.size w (w2.setCell ⟨w1.heap.size,s,none⟩ (.int .i64 1))):=by
    refine⟨(HI.out.set s hs1 1).congr (fun i hi=>?_),(bnext HB1.out HB2.out).setCell (p:=⟨w1.heap.size,s,none⟩) HB1.out.size _⟩
    exact lim_one (by rw [← HM.out]) hs1 hs2 i hi
   clear hc c0 c1' hs2 hs3
   go_wp2_with fail
   go_ret2
   exact⟨_,rfl,HZ.out⟩
  ·have e1:((m:Int) == 1)=false:=by simp; omega
   have hq:Hid (Elt w2 (.slice a1 (firstL f n).length c1) (firstL f n)):=by
    have h:=HE.out
    rw[← HLL.out] at h
    exact h.called HB2.out
   have hTa:=first_tame hn HF.out
   have hcl:=coinLists_any a1 c1 (firstL f n) z w2 hq.out hTa hz1 hz2
   rw[HLL.out] at hcl
   have hpk:=package_syms (c:=f) (N:=n) (fun i hi=>(HF.out i hi).1) (z - 1) (by rw [HLL.out]; omega) (by rw [HLL.out,show z - 1+1=z by omega,HM.out]; exact HP.out)
   have HPK:Hid (2 * m - 2≤(lists (firstL f n) (z - 1)).length):=by
    have h:=hpk.1
    rw[HLL.out] at h
    exact h
   have HTa:=hid_of hTa
   clear hpk hTa
   go_wp2_with fail
   refine hcl.mono ?_
   rintro e w3 ⟨gS,cS,vs,rfl,hLv⟩
   clear hcl
   have HLv:=hid_of hLv
   have HI3:Hid (IOwn w3 w.heap.size w1.heap.size n n (fun _=>0)):=HI.out.called hLv.2.2.2
   have hat:=addTaken_any w2 w.heap.size w1.heap.size n gS cS z (2 * m - 2) (firstL f n) vs w3 hLv HI3.out HTa.out first_syms hn hz1 hz2 HPK.out
   clear hLv
   rw[show ((2 * m - 2:Nat):Int)=2 * (m:Int) - 2 by omega] at hat
   go_wp2_with fail
   refine hat.mono ?_
   rintro e w4 ⟨rfl,y1,y2⟩
   have HZ:Hid (IOwn w4 w.heap.size w1.heap.size n n (limLen f n z)∧Below w.heap.size w w4):=by
    refine⟨y1.congr (fun i _=>?_),(bnext (bnext HB1.out HB2.out) HLv.out.2.2.2).trans (y2.mono HB1.out.size)⟩
    have:=lim_more (f:=f) (n:=n) (z:=z) (by rw [← HM.out]; omega) i
    rw[← HM.out] at this
    exact this
   clear y1 y2 hat
   go_wp2_with fail
   go_ret2
   exact⟨_,rfl,HZ.out⟩
set_option maxRecDepth 100000 in
set_option maxHeartbeats 1600000 in
theorem limit_bad (a:Option Addr) (n cap:Nat) (f:Nat→Int) (z:Int) (w:World) (hC:Came w a n f) (hn:n≤1048576) (hR:¬ LimitRight f n z):
  Calls Tryz.prog 171 #[.slice a n cap,.int .i64 z] w fun e w'=>e=.returned (.tuple #[.slice none 0 0,.bool false])∧Below w.heap.size w w':=by
 by_cases hin:n≤288∧∀ i,i < n→0≤f i∧f i≤12000
 ·have hsym:=symbols_good a n cap f w hC hin.1 hin.2
  obtain⟨m,hm⟩:∃ m,m=posN f n:=⟨_,rfl⟩
  have hm288:m≤288:=by have:=pos_le f n; have:=hin.1; omega
  have hl:(firstL f n).length=m:=by rw [hm]; exact first_length f n
  by_cases h1:z < 1
  ·have d1:decide (z < 1)=true:=decide_eq_true h1
   clear hin hR hC hm
   go_enter Tryz.func171,Tryz.ntmps171
   go_wp2_with fail
   refine hsym.mono ?_
   rintro e w1 ⟨v,rfl,hE,hB⟩
   clear hsym
   have HB:=hid_of hB
   obtain⟨a1,c1,hv,_⟩:=hE
   rw[hl] at hv
   subst hv
   clear hB hl
   go_wp2_with fail
   exact bodyPost_ret (v:=.tuple #[.slice none 0 0,.bool false]) (by simp [results,Tryz.results171,go_sem]) rfl ⟨rfl,HB.out⟩
  ·have d1:decide (z < 1)=false:=decide_eq_false h1
   by_cases h2:15 < z
   ·have d2:decide (15 < z)=true:=decide_eq_true h2
    clear hin hR hC hm
    go_enter Tryz.func171,Tryz.ntmps171
    go_wp2_with fail
    refine hsym.mono ?_
    rintro e w1 ⟨v,rfl,hE,hB⟩
    clear hsym
    have HB:=hid_of hB
    obtain⟨a1,c1,hv,_⟩:=hE
    rw[hl] at hv
    subst hv
    clear hB hl
    go_wp2_with fail
    exact bodyPost_ret (v:=.tuple #[.slice none 0 0,.bool false]) (by simp [results,Tryz.results171,go_sem]) rfl ⟨rfl,HB.out⟩
   ·obtain⟨k,rfl⟩:=Int.eq_ofNat_of_zero_le (show 0≤z by omega)
    have d2:decide ((15:Int) < (k:Int))=false:=decide_eq_false (by omega)
    obtain⟨pz,hpz⟩:∃ p,p=(2:Int) ^ k:=⟨_,rfl⟩
    have ew:wrap64 ((2:Int) ^ k)=pz:=by rw [wrap_pow k (by omega),hpz]
    have hbig:pz < (m:Int):=by
     rcases Int.lt_or_le pz (m:Int) with q | q
     ·exact q
     ·refine absurd ⟨hin.1,by omega,by omega,hin.2,?_⟩ hR
      rw[Int.toNat_natCast,← hpz,← hm]
      exact q
    have d3:decide (pz < (m:Int))=true:=decide_eq_true hbig
    have hk15:k≤15:=by omega
    clear hin hR hC hm hpz
    go_enter Tryz.func171,Tryz.ntmps171
    go_wp2_with fail
    refine hsym.mono ?_
    rintro e w1 ⟨v,rfl,hE,hB⟩
    clear hsym
    have HB:=hid_of hB
    obtain⟨a1,c1,hv,_⟩:=hE
    rw[hl] at hv
    subst hv
    clear hB hl
    go_wp2_with fail
    exact bodyPost_ret (v:=.tuple #[.slice none 0 0,.bool false]) (by simp [results,Tryz.results171,go_sem]) rfl ⟨rfl,HB.out⟩
 ·have hsym:=symbols_bad a n cap f w hC hn hin
  clear hin hR hC
  go_enter Tryz.func171,Tryz.ntmps171
  go_wp2_with fail
  refine hsym.mono ?_
  rintro e w1 ⟨rfl,hB⟩
  clear hsym
  have HB:=hid_of hB
  clear hB
  go_wp2_with fail
  exact bodyPost_ret (v:=.tuple #[.slice none 0 0,.bool false]) (by simp [results,Tryz.results171,go_sem]) rfl ⟨rfl,HB.out⟩
theorem limit_answer:LimitAnswer:=by
 intro a n cap f z w hC hn hf hz
 constructor
 ·intro hR
  obtain⟨h1,h2,h3,h4,h5⟩:=hR
  obtain⟨k,rfl⟩:=Int.eq_ofNat_of_zero_le (show 0≤z by omega)
  rw[Int.toNat_natCast] at h5
  refine (limit_in a n cap f k w hC h1 h4 (by omega) (by omega) h5).mono ?_
  rintro e w' ⟨g,rfl,hI,hB⟩
  exact⟨_,_,rfl,hI.sl,hB⟩
 ·intro hR
  refine (limit_bad a n cap f z w hC hn hR).mono ?_
  rintro e w' ⟨rfl,hB⟩
  exact⟨none,0,rfl,hB⟩
end Go.Proofs.YtklpiihnbokkkaaGreatDoor
