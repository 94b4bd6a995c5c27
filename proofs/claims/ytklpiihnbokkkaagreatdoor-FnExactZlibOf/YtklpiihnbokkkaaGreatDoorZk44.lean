/-
  Texts of the proof, put together.
-/
import Derived.Test.YtklpiihnbokkkaaGreatDoorZk43
namespace Go.Proofs.YtklpiihnbokkkaaGreatDoor
open Go.RowKit Go.Joins PackageMath
def CoinSt (w w':World) (v:Value) (O:List Coin):Prop:=ItemsAt 225 w' w.heap.size w.heap.size v O∧Below w.heap.size w w'
def CoinX (w w':World) (v:Value) (O:List Coin) (P:Nat) (u:Value) (x:Coin):Prop:=CoinSt w w' v O∧w'.heap[P]?=some (.cells #[.int .i64 x.1,u] 225 (0,0))∧PartsAt w' w.heap.size u x.2
theorem CoinX.called {w w0 w':World} {v:Value} {O:List Coin} {P:Nat} {u:Value} {x:Coin} (h:CoinX w w0 v O P u x) (hb:Below w0.heap.size w0 w'):CoinX w w' v O P u x:=
 ⟨⟨h.1.1.called hb,bnext h.1.2 hb⟩,(hb.block P (block_lt h.2.1)).trans h.2.1,h.2.2.keep (fun g _ _ _ hg=>hb.block g (block_lt hg))⟩
theorem coin_made {w w0:World} {v:Value} {O:List Coin} (h:CoinSt w w0 v O) (c:Int) (j:Nat):
  CoinX w ((w0.alloc (.cells #[.int .i64 (j:Int)] 3)).alloc (.cells #[.int .i64 c,.slice (some ⟨w0.heap.size,0,none⟩) 1 1] 225)) v O (w0.heap.size+1) (.slice (some ⟨w0.heap.size,0,none⟩) 1 1) (c,[j]):=by
 have hb:Below w0.heap.size w0 ((w0.alloc (.cells #[.int .i64 (j:Int)] 3)).alloc (.cells #[.int .i64 c,.slice (some ⟨w0.heap.size,0,none⟩) 1 1] 225)):=bal (bstart _ _) _
 have hz:(w0.alloc (.cells #[.int .i64 (j:Int)] 3)).heap.size=w0.heap.size+1:=by simp
 refine⟨⟨h.1.called hb,bnext h.2 hb⟩,?_,⟨w0.heap.size,1,#[.int .i64 (j:Int)],(0,0),rfl,h.2.size,?_,rfl⟩⟩
 ·have k:=heap_alloc_new (w0.alloc (.cells #[.int .i64 (j:Int)] 3)) (.cells #[.int .i64 c,.slice (some ⟨w0.heap.size,0,none⟩) 1 1] 225)
  rw[hz] at k
  exact k
 ·rw[Below.heap_alloc _ _ _ (by simp)]
  exact heap_alloc_new w0 _
theorem own_below {w w':World} {S:Nat} {e:TypeId} {v:Value} {n:Nat} {xs:List Value} (h:w.ownsRow S e 2 v n xs) (hb:Below w.heap.size w w'):w'.ownsRow S e 2 v n xs:=by
 refine⟨h.1,?_⟩
 rcases h.2 with h | ⟨g,cap,cur,rfl,h1,h2,h3⟩
 ·exact .inl h
 ·exact .inr ⟨g,cap,cur,rfl,h1,(hb.block g (block_lt h2)).trans h2,h3⟩
theorem coin_form {e:TypeId} {w:World} {S B m:Nat} {v:Value} {O:List Coin} (h:ItemsAt e w S B v O) (hl:O.length=m+1):∃ g c,v=.slice (some ⟨g,0,none⟩) (m+1) c:=by
 obtain⟨us,_,h2,_⟩:=h
 obtain⟨g,c,hv,_⟩:=h2.form (by omega)
 exact⟨g,c,by rw [hv,hl]⟩
set_option maxHeartbeats 3200000 in
theorem specFirst (a:Option Addr) (n cap:Nat) (f:Nat→Int) (w:World) (hC:Came w a n f) (hn:n≤288) (hf:∀ i,i < n→0≤f i∧f i≤12000):
  Calls Tryz.prog 156 #[.slice a n cap] w fun e w'=>∃ v',e=.returned v'∧ItemsAt 225 w' w.heap.size w.heap.size v' (firstL f n)∧Below w.heap.size w w':=by
 have HC:Hid (Came w a n f):=hC
 have HF:Hid (∀ i,i < n→0≤f i∧f i≤12000):=hf
 clear hC hf
 go_enter Tryz.func156,Tryz.ntmps156
 go_wp2_with fail
 have H0:Hid (CoinSt w (w.alloc (.cells #[] 225)) (.slice (some ⟨w.heap.size,0,none⟩) 0 0) (firstL f 0)):=⟨ItemsAt.empty w (Nat.le_refl _),bstart _ _⟩
 go_loopw [3,4] (fun v z w'=>∃ j go co m:Nat,j≤n∧z=.int .i64 j∧v=.slice (some ⟨go,0,none⟩) m co∧m≤j∧Hid (m=(firstL f j).length)∧Hid (CoinSt w w' v (firstL f j))) (fun _ z _=>n - (intOf z).toNat)
 case atStart=>exact⟨0,w.heap.size,0,0,by omega,rfl,rfl,by omega,rfl,H0⟩
 case round=>
  clear H0
  obtain⟨j,go,co,m,hj,rfl,rfl,hmj,hm,hS⟩:=hrel
  by_cases hlt:j < n
  ·rcases HC.out with q | ⟨g,off,rfl,hg,hc⟩
   ·omega
   ·have c0:wr.cell? ⟨g,off+j,none⟩=some (.int .i64 (f j)):=(hS.out.2.cell (p:=⟨g,off+j,none⟩) hg).trans (hc j hlt)
    have hl2:g < wr.heap.size:=Nat.lt_of_lt_of_le hg hS.out.2.size
    have hfj:=HF.out j hlt
    clear hc
    by_cases hz:f j=0
    ·have HE:Hid (firstL f (j+1)=firstL f j):=by
      show (if f j=0 then firstL f j else ins (f j,[j]) (firstL f j))=_
      rw[if_pos hz]
     have HS1:Hid (CoinSt w wr (.slice (some ⟨go,0,none⟩) m co) (firstL f (j+1))):=by
      show CoinSt w wr _ (firstL f (j+1))
      rw[HE.out]
      exact hS.out
     rw[hz] at c0
     go_wp2_with fail
     go_roundw
     case rel=>exact⟨j+1,go,co,m,by omega,by go_num,rfl,by omega,by show m=_; rw [HE.out]; exact hm.out,HS1⟩
     case measure=>simp [intOf]; omega
    ·have dz:(f j == 0)=false:=by simpa using hz
     have HE:Hid (firstL f (j+1)=ins (f j,[j]) (firstL f j)):=by
      show (if f j=0 then firstL f j else ins (f j,[j]) (firstL f j))=_
      rw[if_neg hz]
     have HX0:=hid_of (coin_made hS.out (f j) j)
     have HAsc:Hid (Asc (firstL f j)):=first_asc j (fun i hi=>(HF.out i (by omega)).1)
     obtain⟨A,hA⟩:∃ A,A=wr.heap.size:=⟨_,rfl⟩
     rw[← hA] at HX0
     have HL1:Hid ((firstL f (j+1)).length=m+1):=by
      show (firstL f (j+1)).length=m+1
      rw[HE.out,ins_length,← hm.out]
     go_wp2_with fail
     rw[← hA]
     clear hA
     go_loopw [6] (fun z w'=>∃ k:Nat,k≤m∧z=.int .i64 k∧Hid (∀ q,k≤q→q < m→f j < ((firstL f j).getD q (0,[])).1)∧Hid (CoinX w w' (.slice (some ⟨go,0,none⟩) m co) (firstL f j) (A+1) (.slice (some ⟨A,0,none⟩) 1 1) (f j,[j]))) (fun z _=>(intOf z).toNat)
     case atStart=>exact⟨m,by omega,rfl,fun q h1 h2=>by omega,HX0⟩
     case round=>
      clear HX0
      obtain⟨k,hk,rfl,hbig,hQ⟩:=hrel
      have hP0:wr.cell? ⟨A+1,0,none⟩=some (.int .i64 (f j)):=cell_of_block hQ.out.2.1 0
      have hPl:=block_lt hQ.out.2.1
      obtain⟨us,hu1,hu2,hu3⟩:=hQ.out.1.1
      have HU1:=hid_of hu1
      have HU3:=hid_of hu3
      have HU2:Hid (wr.ownsRow w.heap.size 225 2 (.slice (some ⟨go,0,none⟩) (firstL f j).length co) (firstL f j).length (icells (firstL f j) us)):=by
       have h:=hu2
       have e:=hm.out
       rw[← e] at h
       show wr.ownsRow _ _ _ _ _ _
       rw[← e]
       exact h
      have hcap:m≤co:=by
       rcases hu2.2 with ⟨q,_⟩ | ⟨g',cap',cur,q,_,_,q2,_⟩
       ·cases q
       ·simp at q
        have e:=hm.out
        omega
      have hlen:(firstL f j).length≤288:=by rw [← hm.out]; omega
      clear hu1 hu2 hu3
      cases k with
      | zero=>
       have HINS:Hid ((firstL f j).take 0 ++ [(f j,[j])] ++ (firstL f j).drop 0=ins (f j,[j]) (firstL f j)):=ins_at _ _ 0 HAsc.out (by omega) (.inl rfl) (fun q h1 h2=>hbig.out q h1 (by rw [hm.out]; exact h2))
       go_wp2_with fail
       go_quiet (fail)
       go_wp2_with (at_builtin; refine items_append (S:=wr.heap.size) (B:=w.heap.size) (xs:=[]) (ys:=(firstL f j).take 0) (vs:=us.take 0) rfl _ _ rfl rfl (ItemsAt.empty (wr.drewN _) (Nat.le_refl _)) (some ⟨go,0,none⟩) _ _ rfl (by rw [List.length_take,← hm.out]; omega) (by rw [List.length_take,List.length_take,HU1.out]) (fun q hq=>(parts_upto HU1.out HU3.out 0 q hq).lay _ _) (news_upto HU1.out (by exact World.ownsRow.alloc (w:=wr.drewN _) HU2.out _) 0) (fun h=>by cases h) (by simp only [List.length_nil,List.length_take]; omega) (by simp) ?_)
       intro v1 w1 hI1 hg1 hat1
       have HB1:Hid (Below wr.heap.size wr w1):=((bdraws (Below.refl _ _) _).alloc (Nat.le_refl _) _).grown hg1 (by simp) (fun k hk=>by cases hk; exact Nat.le_refl _)
       have HI1:Hid (ItemsAt 225 w1 wr.heap.size w.heap.size v1 ([] ++ (firstL f j).take 0)):=hid_of (by simpa using hI1)
       have HX1:=hid_of (hQ.out.called HB1.out)
       have p0:w1.cell? ⟨A+1,0,none⟩=some (.int .i64 (f j)):=cell_of_block HX1.out.2.1 0
       have p1:w1.cell? ⟨A+1,1,none⟩=some (.slice (some ⟨A,0,none⟩) 1 1):=cell_of_block HX1.out.2.1 1
       have pl1:=block_lt HX1.out.2.1
       have s1:=HB1.out.size
       clear hI1 hg1 hat1
       go_wp2_with (at_builtin; refine items_append (S:=wr.heap.size) (B:=w.heap.size) (xs:=[] ++ (firstL f j).take 0) (ys:=[(f j,[j])]) (vs:=[.slice (some ⟨A,0,none⟩) 1 1]) rfl _ _ rfl rfl (HI1.out.called (bstart _ _)) (some ⟨w1.heap.size,0,none⟩) 1 1 rfl rfl rfl (one_part (x:=(f j,[j])) (HX1.out.2.2.lay 0 _)) (news_item (w:=w1) 0 (f j,[j]) _) (fun h=>by cases h) (by simp only [List.nil_append,List.length_take,List.length_cons,List.length_nil]; omega) (by simp; omega) ?_)
       intro v2 w2 hI2 hg2 hat2
       have HB2:Hid (Below wr.heap.size wr w2):=(HB1.out.alloc s1 _).grown hg2 (by simp; omega) (fun k hk=>(HI1.out.spine k hk).1)
       have HI2:Hid (ItemsAt 225 w2 wr.heap.size w.heap.size v2 ([] ++ (firstL f j).take 0 ++ [(f j,[j])])):=hid_of (by simpa using hI2)
       have hu2':=HU2.out
       have s2:=HB2.out.size
       clear hI2 hg2 hat2 hu2' p0 p1 pl1
       have HU2b:Hid (w2.ownsRow w.heap.size 225 2 (.slice (some ⟨go,0,none⟩) (firstL f j).length co) (firstL f j).length (icells (firstL f j) us)):=own_below HU2.out HB2.out
       have HU3b:Hid (∀ i,i < (firstL f j).length→PartsAt w2 w.heap.size (us.getD i undef) ((firstL f j).getD i (0,[])).2):=fun i hi=>(HU3.out i hi).keep (fun g cur fz _ hg=>HB2.out.block g (block_lt hg))
       by_cases hci:co=0
       ·have HKm:Hid (m=0):=by show m=0; omega
        have HD:Hid ((firstL f j).drop 0=[]):=List.drop_eq_nil_of_le (by rw [← hm.out,HKm.out]; exact Nat.le_refl _)
        have hck:co≤0:=by omega
        have hkc:0≤co:=by omega
        clear hci
        go_wp2_with (at_builtin; refine items_append (S:=wr.heap.size) (B:=w.heap.size) (xs:=[] ++ (firstL f j).take 0 ++ [(f j,[j])]) (ys:=[]) (vs:=[]) rfl _ _ rfl rfl HI2.out (some ⟨go,0,none⟩) _ _ rfl (by have:=HKm.out; simp only [List.length_nil]; omega) rfl (fun q hq=>absurd hq (Nat.not_lt_zero q)) (fun ad _ j q hq=>by cases hq) (fun h=>by cases h) (by simp only [List.nil_append,List.length_append,List.length_take,List.length_cons,List.length_nil]; omega) s2 ?_)
        intro v3 w3 hI3 hg3 hat3
        have HT:Hid (CoinSt w w3 v3 (firstL f (j+1))):=by
         refine⟨?_,bnext hQ.out.1.2 (HB2.out.grown hg3 s2 (fun k hk=>(HI2.out.spine k hk).1))⟩
         have e:=HINS.out
         rw[HD.out] at e
         rw[HE.out,← e]
         simpa using hI3.mono hQ.out.1.2.size
        clear hI3 hg3 hat3
        obtain⟨g3,c3,hv3⟩:=coin_form HT.out.1 HL1.out
        subst hv3
        go_wp2_with fail
        go_roundw
        case rel=>exact⟨j+1,g3,c3,m+1,by omega,by go_num,rfl,by omega,HL1.out.symm,HT⟩
        case measure=>simp [intOf]; omega
       ·go_wp2_with (at_builtin; refine items_append (S:=wr.heap.size) (B:=w.heap.size) (xs:=[] ++ (firstL f j).take 0 ++ [(f j,[j])]) (ys:=(firstL f j).drop 0) (vs:=us.drop 0) rfl _ _ rfl rfl HI2.out _ _ _ rfl (by have e:=hm.out; rw [List.length_drop]; omega) (by rw [List.length_drop,List.length_drop,HU1.out]) (parts_from HU1.out HU3b.out 0) (news_from HU1.out HU2b.out 0) (fun h=>by cases h) (by simp only [List.nil_append,List.length_append,List.length_take,List.length_drop,List.length_cons,List.length_nil]; omega) s2 ?_)
        intro v3 w3 hI3 hg3 hat3
        have HT:Hid (CoinSt w w3 v3 (firstL f (j+1))):=by
         refine⟨?_,bnext hQ.out.1.2 (HB2.out.grown hg3 s2 (fun k hk=>(HI2.out.spine k hk).1))⟩
         rw[HE.out,← HINS.out]
         simpa using hI3.mono hQ.out.1.2.size
        clear hI3 hg3 hat3
        obtain⟨g3,c3,hv3⟩:=coin_form HT.out.1 HL1.out
        subst hv3
        go_wp2_with fail
        go_roundw
        case rel=>exact⟨j+1,g3,c3,m+1,by omega,by go_num,rfl,by omega,HL1.out.symm,HT⟩
        case measure=>simp [intOf]; omega
      | succ k=>
       obtain⟨g',cap',u',hv',hg',kk0,_,_⟩:=hQ.out.1.1.get k (by rw [← hm.out]; omega)
       have hgo:go=g':=by
        have h:=hv'
        simp at h
        exact h.1
       subst hgo
       clear hv'
       obtain⟨y,hy⟩:∃ y,y=((firstL f j).getD k (0,[])).1:=⟨_,rfl⟩
       have HY:=hid_of hy
       rw[← hy] at kk0
       clear hy
       have dk:decide ((0:Int) < (k:Int)+1)=true:=decide_eq_true (by omega)
       have ec:((k+1:Nat):Int)=(k:Int)+1:=by omega
       have ek:IntKind.i64.wrap (k:Int)=(k:Int):=by rw [IntKind.wrap_i64]; omega
       have ek0:(0:Int)≤(k:Int):=Int.natCast_nonneg _
       have ek1:(k:Int) < (m:Int):=by omega
       have ek2:(k:Int)+1 - 1=(k:Int):=by omega
       by_cases hgt:f j < y
       ·have dg:decide (f j < y)=true:=by simpa using hgt
        have HB1:Hid (∀ q,k≤q→q < m→f j < ((firstL f j).getD q (0,[])).1):=fun q h1 h2=>by
         by_cases e:q=k
         ·rw[e,← HY.out]; exact hgt
         ·exact hbig.out q (by omega) h2
        go_wp2_with fail
        go_quiet (fail)
        go_wp2_with fail
        go_roundw
        case rel=>exact⟨k,by omega,by go_num,HB1,hQ.out.called (bdraws (Below.refl _ _) _)⟩
        case measure=>simp [intOf]
       ·have dg:decide (f j < y)=false:=by simpa using hgt
        have HINS:Hid ((firstL f j).take (k+1) ++ [(f j,[j])] ++ (firstL f j).drop (k+1)=ins (f j,[j]) (firstL f j)):=ins_at _ _ (k+1) HAsc.out (by rw [← hm.out]; exact hk) (.inr (by show ((firstL f j).getD k (0,[])).1≤f j; rw [← HY.out]; omega)) (fun q h1 h2=>hbig.out q h1 (by rw [hm.out]; exact h2))
        go_wp2_with fail
        go_quiet (fail)
        go_wp2_with (at_builtin; refine items_append (S:=wr.heap.size) (B:=w.heap.size) (xs:=[]) (ys:=(firstL f j).take (k+1)) (vs:=us.take (k+1)) rfl _ _ rfl rfl (ItemsAt.empty (wr.drewN _) (Nat.le_refl _)) (some ⟨go,0,none⟩) _ _ rfl (by rw [List.length_take,← hm.out]; omega) (by rw [List.length_take,List.length_take,HU1.out]) (fun q hq=>(parts_upto HU1.out HU3.out (k+1) q hq).lay _ _) (news_upto HU1.out (by exact World.ownsRow.alloc (w:=wr.drewN _) HU2.out _) (k+1)) (fun h=>by cases h) (by simp only [List.length_nil,List.length_take]; omega) (by simp) ?_)
        intro v1 w1 hI1 hg1 hat1
        have HB1:Hid (Below wr.heap.size wr w1):=((bdraws (Below.refl _ _) _).alloc (Nat.le_refl _) _).grown hg1 (by simp) (fun k hk=>by cases hk; exact Nat.le_refl _)
        have HI1:Hid (ItemsAt 225 w1 wr.heap.size w.heap.size v1 ([] ++ (firstL f j).take (k+1))):=hid_of (by simpa using hI1)
        have HX1:=hid_of (hQ.out.called HB1.out)
        have p0:w1.cell? ⟨A+1,0,none⟩=some (.int .i64 (f j)):=cell_of_block HX1.out.2.1 0
        have p1:w1.cell? ⟨A+1,1,none⟩=some (.slice (some ⟨A,0,none⟩) 1 1):=cell_of_block HX1.out.2.1 1
        have pl1:=block_lt HX1.out.2.1
        have s1:=HB1.out.size
        clear hI1 hg1 hat1
        go_wp2_with (at_builtin; refine items_append (S:=wr.heap.size) (B:=w.heap.size) (xs:=[] ++ (firstL f j).take (k+1)) (ys:=[(f j,[j])]) (vs:=[.slice (some ⟨A,0,none⟩) 1 1]) rfl _ _ rfl rfl (HI1.out.called (bstart _ _)) (some ⟨w1.heap.size,0,none⟩) 1 1 rfl rfl rfl (one_part (x:=(f j,[j])) (HX1.out.2.2.lay 0 _)) (news_item (w:=w1) 0 (f j,[j]) _) (fun h=>by cases h) (by simp only [List.nil_append,List.length_take,List.length_cons,List.length_nil]; omega) (by simp; omega) ?_)
        intro v2 w2 hI2 hg2 hat2
        have HB2:Hid (Below wr.heap.size wr w2):=(HB1.out.alloc s1 _).grown hg2 (by simp; omega) (fun k hk=>(HI1.out.spine k hk).1)
        have HI2:Hid (ItemsAt 225 w2 wr.heap.size w.heap.size v2 ([] ++ (firstL f j).take (k+1) ++ [(f j,[j])])):=hid_of (by simpa using hI2)
        have hu2':=HU2.out
        have s2:=HB2.out.size
        clear hI2 hg2 hat2 hu2' p0 p1 pl1
        have HU2b:Hid (w2.ownsRow w.heap.size 225 2 (.slice (some ⟨go,0,none⟩) (firstL f j).length co) (firstL f j).length (icells (firstL f j) us)):=own_below HU2.out HB2.out
        have HU3b:Hid (∀ i,i < (firstL f j).length→PartsAt w2 w.heap.size (us.getD i undef) ((firstL f j).getD i (0,[])).2):=fun i hi=>(HU3.out i hi).keep (fun g cur fz _ hg=>HB2.out.block g (block_lt hg))
        by_cases hci:co=(k+1)
        ·have HKm:Hid (m=(k+1)):=by show m=(k+1); omega
         have HD:Hid ((firstL f j).drop (k+1)=[]):=List.drop_eq_nil_of_le (by rw [← hm.out,HKm.out]; exact Nat.le_refl _)
         have hck:co≤(k+1):=by omega
         have hkc:(k+1)≤co:=by omega
         clear hci
         go_wp2_with (at_builtin; refine items_append (S:=wr.heap.size) (B:=w.heap.size) (xs:=[] ++ (firstL f j).take (k+1) ++ [(f j,[j])]) (ys:=[]) (vs:=[]) rfl _ _ rfl rfl HI2.out (some ⟨go,0,none⟩) _ _ rfl (by have:=HKm.out; simp only [List.length_nil]; omega) rfl (fun q hq=>absurd hq (Nat.not_lt_zero q)) (fun ad _ j q hq=>by cases hq) (fun h=>by cases h) (by simp only [List.nil_append,List.length_append,List.length_take,List.length_cons,List.length_nil]; omega) s2 ?_)
         intro v3 w3 hI3 hg3 hat3
         have HT:Hid (CoinSt w w3 v3 (firstL f (j+1))):=by
          refine⟨?_,bnext hQ.out.1.2 (HB2.out.grown hg3 s2 (fun k hk=>(HI2.out.spine k hk).1))⟩
          have e:=HINS.out
          rw[HD.out] at e
          rw[HE.out,← e]
          simpa using hI3.mono hQ.out.1.2.size
         clear hI3 hg3 hat3
         obtain⟨g3,c3,hv3⟩:=coin_form HT.out.1 HL1.out
         subst hv3
         go_wp2_with fail
         go_roundw
         case rel=>exact⟨j+1,g3,c3,m+1,by omega,by go_num,rfl,by omega,HL1.out.symm,HT⟩
         case measure=>simp [intOf]; omega
        ·go_wp2_with (at_builtin; refine items_append (S:=wr.heap.size) (B:=w.heap.size) (xs:=[] ++ (firstL f j).take (k+1) ++ [(f j,[j])]) (ys:=(firstL f j).drop (k+1)) (vs:=us.drop (k+1)) rfl _ _ rfl rfl HI2.out _ _ _ rfl (by have e:=hm.out; rw [List.length_drop]; omega) (by rw [List.length_drop,List.length_drop,HU1.out]) (parts_from HU1.out HU3b.out (k+1)) (news_from HU1.out HU2b.out (k+1)) (fun h=>by cases h) (by simp only [List.nil_append,List.length_append,List.length_take,List.length_drop,List.length_cons,List.length_nil]; omega) s2 ?_)
         intro v3 w3 hI3 hg3 hat3
         have HT:Hid (CoinSt w w3 v3 (firstL f (j+1))):=by
          refine⟨?_,bnext hQ.out.1.2 (HB2.out.grown hg3 s2 (fun k hk=>(HI2.out.spine k hk).1))⟩
          rw[HE.out,← HINS.out]
          simpa using hI3.mono hQ.out.1.2.size
         clear hI3 hg3 hat3
         obtain⟨g3,c3,hv3⟩:=coin_form HT.out.1 HL1.out
         subst hv3
         go_wp2_with fail
         go_roundw
         case rel=>exact⟨j+1,g3,c3,m+1,by omega,by go_num,rfl,by omega,HL1.out.symm,HT⟩
         case measure=>simp [intOf]; omega
  ·obtain rfl:j=n:=by omega
   go_wp2_with fail
   go_ret
   exact⟨_,rfl,hS.out.1,hS.out.2⟩
end Go.Proofs.YtklpiihnbokkkaaGreatDoor

namespace Go.Proofs.YtklpiihnbokkkaaGreatDoor
open Go.RowKit Go.Joins OutMath PackageMath
theorem small_of {X:List Coin} (h:∀ x∈X,SmallK 0 x) {k:Nat} (hk:k≤14):Small (lists X k):=fun i hi=>by
 have hm:(lists X k).getD i (0,[])∈lists X k:=by
  rw[List.getD_eq_getElem?_getD,List.getElem?_eq_getElem hi]
  exact List.getElem_mem _
 exact smallK_bd hk (lists_small h k _ hm)
theorem posN_succ (f:Nat→Int) (j:Nat):posN f (j+1)=posN f j+(if f j=0 then 0 else 1):=by
 show cN _ j+(if decide (f j≠0)=true then 1 else 0)=_
 by_cases h:f j=0
 ·rw[if_neg (by simpa using h),if_pos h]
  rfl
 ·rw[if_pos (by simpa using h),if_neg h]
  rfl
def LimSt (w w':World) (n:Nat) (v:Value) (L:List Coin) (F:Nat→Int):Prop:=
 IOwn w' w.heap.size w.heap.size n n F∧ItemsAt 225 w' (w.heap.size+1) (w.heap.size+1) v L∧Below w.heap.size w w'
theorem LimSt.set {w w':World} {n:Nat} {v:Value} {L:List Coin} {F:Nat→Int} (h:LimSt w w' n v L F) (s:Nat) (hs:s < n) (x:Int):LimSt w (w'.setCell ⟨w.heap.size,s,none⟩ (.int .i64 x)) n v L (upd F s x):=by
 refine⟨h.1.set s hs x,h.2.1.keep (fun k hk=>Below.heap_setCell _ _ _ _ ?_) (fun g cur fz hB _=>Below.heap_setCell _ _ _ _ ?_),Below.setCell (p:=⟨w.heap.size,s,none⟩) h.2.2 (Nat.le_refl _) _⟩
 ·have:=(h.2.1.spine k hk).1
  show k≠w.heap.size
  omega
 ·show g≠w.heap.size
  omega
theorem LimSt.congr {w w':World} {n:Nat} {v:Value} {L:List Coin} {F F':Nat→Int} (h:LimSt w w' n v L F) (e:∀ i,i < n→F i=F' i):LimSt w w' n v L F':=⟨h.1.congr e,h.2⟩
theorem LimSt.drew {w w':World} {n:Nat} {v:Value} {L:List Coin} {F:Nat→Int} (h:LimSt w w' n v L F):LimSt w w'.drew n v L F:=⟨h.1.drew,h.2.1.keep (fun _ _=>rfl) (fun _ _ _ _ _=>rfl),h.2.2.drew⟩
theorem sm_le {φ:Coin→Int} {c:Int}:∀ (l:List Coin),(∀ x∈l,0≤φ x∧φ x≤c)→0≤sm φ l∧sm φ l≤c * l.length
 | [],_=>by simp [sm]
 | x :: l,h=>by
  have h1:=h x (by simp)
  have h2:=sm_le l (fun y hy=>h y (by simp [hy]))
  have e:c * ((x :: l).length:Int)=c+c * (l.length:Int):=by
   rw[show ((x :: l).length:Int)=1+(l.length:Int) by simp; omega,Int.mul_add,Int.mul_one]
  show 0≤φ x+sm φ l∧φ x+sm φ l≤_
  omega
theorem lim_bd {L:List Coin} (h:Small L) (i:Nat) (hi:i≤1000) (k s:Nat):0≤sm (ct s) (L.take i)+((((L.getD i (0,[])).2.take k).count s:Nat):Int)∧sm (ct s) (L.take i)+((((L.getD i (0,[])).2.take k).count s:Nat):Int)≤1000000000000:=by
 have hk:∀ x∈L.take i,0≤ct s x∧ct s x≤1000000:=by
  intro x hx
  have hxL:=List.mem_of_mem_take hx
  obtain⟨r,hr,he⟩:=List.getElem_of_mem hxL
  have hs:=h r hr
  rw[List.getD_eq_getElem?_getD,List.getElem?_eq_getElem hr] at hs
  have hs':x.2.length≤1000000:=by rw [← he]; exact hs.2.2.2
  have hc:x.2.count s≤x.2.length:=List.count_le_length
  show (0:Int)≤(x.2.count s:Nat)∧((x.2.count s:Nat):Int)≤1000000
  omega
 have h1:=sm_le (φ:=ct s) (c:=1000000) (L.take i) hk
 have hl:(L.take i).length≤1000:=by rw [List.length_take]; omega
 have hc:((L.getD i (0,[])).2.take k).count s≤1000000:=by
  have h2:((L.getD i (0,[])).2.take k).count s≤((L.getD i (0,[])).2.take k).length:=List.count_le_length
  rw[List.length_take] at h2
  by_cases hi2:i < L.length
  ·have:=(h i hi2).2.2.2
   omega
  ·rw[List.getD_eq_getElem?_getD,List.getElem?_eq_none (by omega)] at h2 ⊢
   simp at h2 ⊢
 omega
theorem getD_mem' {ps:List Nat} {k:Nat} (h:k < ps.length):ps.getD k 0∈ps:=by
 rw[List.getD_eq_getElem?_getD,List.getElem?_eq_getElem h]
 exact List.getElem_mem _
set_option maxHeartbeats 3200000 in
theorem specLimit_good (a:Option Addr) (n cap:Nat) (f:Nat→Int) (z:Nat) (w:World) (hC:Came w a n f) (hR:LimitRight f n (z:Int)):
  Calls Tryz.prog 112 #[.slice a n cap,.int .i64 (z:Int)] w fun e w'=>e=.returned (.tuple #[.slice (some ⟨w.heap.size,0,none⟩) n n,.bool true])∧IOwn w' w.heap.size w.heap.size n n (limLen f n (z:Int))∧Below w.heap.size w w':=by
 obtain⟨hn,hz1,hz2,hf,hpos⟩:=hR
 have HC:Hid (Came w a n f):=hC
 have HF:Hid (∀ i,i < n→0≤f i∧f i≤12000):=hf
 rw[Int.toNat_natCast] at hpos
 have HPOS:=hid_of hpos
 have hpn:posN f n≤n:=cN_le _ _
 clear hC hf hpos
 have dn:decide ((n:Int)≤288)=true:=decide_eq_true (by omega)
 have hmk:=make_ints w n (by omega)
 have HO:=hid_of (IOwn.made (base:=w.heap.size) w n (by unfold maxLen; omega) (Nat.le_refl _))
 have HB0:=hid_of (bstart w (.cells (madeCells #[Value.int .i64 0] n) 3))
 have HZ0:Hid ((w.alloc (.cells (madeCells #[Value.int .i64 0] n) 3)).heap.size=w.heap.size+1):=by show _=_; simp
 generalize w.alloc (.cells (madeCells #[Value.int .i64 0] n) 3)=w0 at hmk HO HB0 HZ0
 go_enter Tryz.func112,Tryz.ntmps112
 go_wp2_with fail
 refine (in_yes _ _ _ _ hz1 hz2).mono ?_
 rintro e w1 ⟨rfl,hw1⟩
 obtain rfl:w=w1:=hw1.symm
 clear hw1
 go_wp2_with fail
 go_loop [6,7,8] (fun ok x i=>∃ j:Nat,j≤n∧i=.int .i64 j∧x=.int .i64 (posN f j:Nat)∧ok=.bool true) (fun _ _ i=>n - (intOf i).toNat)
 case atStart=>exact⟨0,by omega,rfl,rfl,rfl⟩
 case round=>
  obtain⟨j,hj,rfl,rfl,rfl⟩:=hrel
  have hpj:posN f j≤j:=cN_le _ _
  by_cases hlt:j < n
  ·rcases HC.out with q | ⟨g,off,rfl,hg,hc⟩
   ·omega
   ·have c0:=hc j hlt
    clear hc
    obtain⟨v0,v1⟩:=HF.out j hlt
    have dj:decide ((j:Int) < (n:Int))=true:=decide_eq_true (by omega)
    go_wp2_with fail
    refine (in_yes _ _ _ _ v0 v1).mono ?_
    rintro e w1 ⟨rfl,hw1⟩
    obtain rfl:w=w1:=hw1.symm
    clear hw1
    by_cases hp:0 < f j
    ·have HP:Hid (posN f (j+1)=posN f j+1):=by show _=_; rw [posN_succ,if_neg (by omega)]
     have dp:decide (0 < f j)=true:=decide_eq_true hp
     go_wp2_with fail
     go_round
     case rel=>exact⟨j+1,by omega,by go_num,by rw [HP.out]; go_num,rfl⟩
     case measure=>simp [intOf]; omega
    ·have HP:Hid (posN f (j+1)=posN f j):=by show _=_; rw [posN_succ,if_pos (by omega)]; omega
     have dp:decide (0 < f j)=false:=decide_eq_false hp
     go_wp2_with fail
     go_round
     case rel=>exact⟨j+1,by omega,by go_num,by rw [HP.out],rfl⟩
     case measure=>simp [intOf]; omega
  ·obtain rfl:j=n:=by omega
   have dj:decide ((j:Int) < (j:Int))=false:=decide_eq_false (by omega)
   go_wp2_with fail
   refine (pow_int _ _ (by omega) (by omega)).mono ?_
   rintro e w1 ⟨rfl,hw1⟩
   obtain rfl:w=w1:=hw1.symm
   clear hw1
   rw[Int.toNat_natCast]
   have dq:decide (p2 z < (posN f j:Int))=false:=decide_eq_false (by have:=HPOS.out; show ¬ (2:Int) ^ z < _; omega)
   go_wp2_with fail
   refine (specFirst a j cap f w0 (HC.out.called HB0.out) hn HF.out).mono ?_
   rintro e w2 ⟨v,rfl,hI,hB2⟩
   have HLEN:Hid ((firstL f j).length=posN f j):=first_length f j
   have HS:Hid (LimSt w w2 j v (firstL f j) (fun _=>0)):=by
    refine⟨HO.out.called hB2,?_,bnext HB0.out hB2⟩
    have h:=hI
    rw[HZ0.out] at h
    exact h
   clear hI hB2 hmk HO HB0 HZ0
   obtain⟨av,cv,hv⟩:=HS.out.2.1.slice
   subst hv
   by_cases p0:posN f j=0
   ·have d1:(((posN f j:Nat):Int) == 1)=false:=by simp; omega
    have d2:decide (((posN f j:Nat):Int) < 2)=true:=decide_eq_true (by omega)
    have HT:=hid_of (HS.out.1.congr (fun i _=>lim_none (z:=(z:Int)) p0 i))
    go_wp2_with fail
    go_ret2
    exact⟨rfl,HT.out,HS.out.2.2⟩
   ·by_cases p1:posN f j=1
    ·have d1:(((posN f j:Nat):Int) == 1)=true:=by simp; omega
     have d2:decide (((posN f j:Nat):Int) < 2)=true:=decide_eq_true (by omega)
     obtain⟨g,cg,u,hv,hg,k0,k1,hp⟩:=HS.out.2.1.get 0 (by rw [HLEN.out]; omega)
     obtain⟨rfl,rfl⟩:av=some ⟨g,0,none⟩∧cv=cg:=by simpa using hv
     clear hv
     obtain⟨s,hs,hfs,hx⟩:∃ s,s < j∧f s≠0∧(firstL f j).getD 0 (0,[])=(f s,[s]):=by
      have hm:(firstL f j).getD 0 (0,[])∈firstL f j:=by
       rw[List.getD_eq_getElem?_getD,List.getElem?_eq_getElem (by rw [HLEN.out]; omega)]
       exact List.getElem_mem _
      exact first_mem j _ hm
     rw[hx] at hp
     obtain⟨x0,cx,r0,z0,rfl,m0,n0,o0⟩:=id hp
     have kc:=hp.cell.2.2 0 (by simp)
     have kc':w2.cell? ⟨x0,0,none⟩=some (.int .i64 (s:Int)):=kc
     have hx0:=hp.cell.2.1
     have k1':w2.cell? ⟨g,1,none⟩=some (.slice (some ⟨x0,0,none⟩) 1 cx):=k1
     have hl1:(firstL f j).length=1:=by rw [HLEN.out]; exact p1
     have c1:=HS.out.1.cell s hs
     have f1:=HS.out.1.free s hs
     have l1:=HS.out.1.lt
     have HT:=hid_of ((HS.out.set s hs 1).congr (F':=limLen f j (z:Int)) (fun i hi=>lim_one p1 hs hfs i hi))
     have hs0:(0:Int)≤(s:Int):=Int.natCast_nonneg _
     have hs1:(s:Int) < (j:Int):=by omega
     clear k0 k1 kc hp n0 o0 hx
     go_wp2_with fail
     go_ret2
     exact⟨rfl,HT.out.1,HT.out.2.2⟩
    ·have d1:(((posN f j:Nat):Int) == 1)=false:=by simp; omega
     have d2:decide (((posN f j:Nat):Int) < 2)=false:=decide_eq_false (by omega)
     have HXS:Hid (∀ x∈firstL f j,SmallK 0 x):=first_small HF.out
     have HXL:Hid ((firstL f j).length≤288):=by show _≤_; rw [HLEN.out]; omega
     have H2:Hid (∀ L' v' w',LimSt w w' j v' L' (fun _=>0)→LimSt w w' j v' L' (fun q=>sm (ct q) (L'.take 0))):=fun L' v' w' h=>h.congr (fun i _=>by simp [sm])
     have HLN:Hid (2 * posN f j - 2≤(lists (firstL f j) (z - 1)).length):=by
      have h:=(package_syms (c:=f) (N:=j) (fun i hi=>(HF.out i hi).1) (z - 1) (by rw [HLEN.out]; omega) (by
       rw[HLEN.out,show z - 1+1=z by omega]
       exact HPOS.out)).1
      rw[HLEN.out] at h
      exact h
     obtain⟨X,hX⟩:∃ X,X=firstL f j:=⟨_,rfl⟩
     have HXE:=hid_of hX
     rw[← hX] at HS HLEN HXS HXL HLN
     rw[← hX]
     clear hX
     go_wp2_with fail
     go_loopw [11,12] (fun v k w'=>∃ (q cl m:Nat) (al:Option Addr),q+1≤z∧k=.int .i64 ((q:Int)+1)∧v=.slice al m cl∧Hid (m=(lists X q).length)∧Hid (LimSt w w' j v (lists X q) (fun _=>0))∧Hid (ItemsAt 225 w' (w.heap.size+1) (w.heap.size+1) (.slice av X.length cv) X)) (fun _ k _=>z - (intOf k).toNat)
     case atStart=>exact⟨0,cv,X.length,av,by omega,rfl,rfl,rfl,HS,HS.out.2.1⟩
     case round=>
      clear HS
      obtain⟨q,cl,m,al,hq,rfl,rfl,hm,hS,hXI⟩:=hrel
      have hsz:=hS.out.2.2.size
      have hlt1:=hS.out.1.lt
      by_cases hlt:q+1 < z
      ·have dq2:decide ((q:Int)+1 < (z:Int))=true:=decide_eq_true (by omega)
       have HNX:=hid_of (specNext av al cv cl (w.heap.size+1) (w.heap.size+1) (w.heap.size+1) X (lists X q) wr hXI.out (by have h:=hS.out.2.1; rw [hm.out] at h; exact h) HXL.out (by have h1:=lists_short X q; have h2:=HXL.out; omega) (small_of (k:=0) HXS.out (by omega)) (small_of HXS.out (by omega)) (by omega))
       rw[← hm.out] at HNX
       go_wp2_with fail
       refine HNX.out.mono ?_
       rintro e w3 ⟨v3,rfl,hI3,hB3⟩
       obtain⟨a3,c3,hv3⟩:=hI3.slice
       have HM3:Hid ((merge X (pairs (lists X q))).length=(lists X (q+1)).length):=rfl
       have HS3:Hid (LimSt w w3 j v3 (lists X (q+1)) (fun _=>0)):=⟨hS.out.1.called hB3,hI3.mono (by omega),bnext hS.out.2.2 hB3⟩
       have HX3:=hid_of (hXI.out.called hB3)
       subst hv3
       clear hI3 hB3 HNX
       go_wp2_with fail
       go_roundw
       case rel=>exact⟨q+1,c3,_,a3,by omega,by go_num,rfl,HM3.out,HS3,HX3⟩
       case measure=>simp [intOf]; omega
      ·obtain rfl:z=q+1:=by omega
       have dq2:decide ((q:Int)+1 < ((q+1:Nat):Int))=false:=decide_eq_false (by omega)
       rw[show q+1 - 1=q by omega] at HLN
       have HS0:=hid_of (H2.out _ _ _ hS.out)
       have hP2:2≤posN f j:=by omega
       have hlb:m≤576:=by
        have h1:=lists_short X q
        have h2:=HXL.out
        have h3:=hm.out
        omega
       have HSY:Hid (∀ x∈lists X q,∀ s∈x.2,s < j):=lists_syms (by rw [HXE.out]; exact first_syms) q
       have HSM:Hid (Small (lists X q)):=small_of HXS.out (by omega)
       clear hS hXI
       obtain⟨L,hL⟩:∃ L,L=lists X q:=⟨_,rfl⟩
       have HLE:=hid_of hL
       rw[← hL] at HS0 HLN HSY HSM hm
       clear hL
       go_wp2_with fail
       go_loopw [13] (fun y w'=>∃ i:Nat,i≤2 * posN f j - 2∧y=.int .i64 i∧Hid (LimSt w w' j (.slice al m cl) L (fun s=>sm (ct s) (L.take i)))) (fun y _=>2 * posN f j - 2 - (intOf y).toNat)
       case atStart=>exact⟨0,by omega,rfl,HS0⟩
       case round=>
        clear HS0
        obtain⟨i,hi,rfl,hS⟩:=hrel
        by_cases hlt2:i < 2 * posN f j - 2
        ·have di:decide ((i:Int) < 2 * ((posN f j:Nat):Int) - 2)=true:=decide_eq_true (by omega)
         have hiL:i < L.length:=by have:=HLN.out; omega
         have HS1:Hid (LimSt w wr j (.slice al m cl) L (fun s=>sm (ct s) (L.take i)+((((L.getD i (0,[])).2.take 0).count s:Nat):Int))):=hS.out.congr (fun s _=>by simp)
         clear hS
         have hsmall:=HSM.out i hiL
         go_wp2_with fail
         go_loopw [14] (fun y w'=>∃ k:Nat,k≤(L.getD i (0,[])).2.length∧y=.int .i64 k∧Hid (LimSt w w' j (.slice al m cl) L (fun s=>sm (ct s) (L.take i)+((((L.getD i (0,[])).2.take k).count s:Nat):Int)))) (fun y _=>(L.getD i (0,[])).2.length - (intOf y).toNat)
         case atStart=>exact⟨0,by omega,rfl,HS1⟩
         case round=>
          clear HS1
          obtain⟨k,hk,rfl,hT⟩:=hrel
          obtain⟨g,cg,u,hv,hg,k0,k1,hp⟩:=hT.out.2.1.get i hiL
          have hag:al=some ⟨g,0,none⟩:=by
           have h:=hv
           simp at h
           exact h.1
          subst hag
          obtain⟨x0,cx,r0,z0,rfl,m0,n0,o0⟩:=id hp
          have hpc:=hp.cell
          have hx0:=hpc.2.1
          have hi0:(0:Int)≤(i:Int):=Int.natCast_nonneg _
          have him:(i:Int) < (m:Int):=by have:=hm.out; omega
          clear hv k0
          by_cases hlt3:k < (L.getD i (0,[])).2.length
          ·obtain⟨s,hs⟩:∃ s,s=(L.getD i (0,[])).2.getD k 0:=⟨_,rfl⟩
           have kc:=hpc.2.2 k hlt3
           rw[← hs] at kc
           have hsj:s < j:=by
            have hm1:L.getD i (0,[])∈L:=by
             rw[List.getD_eq_getElem?_getD,List.getElem?_eq_getElem hiL]
             exact List.getElem_mem _
            refine HSY.out _ hm1 s ?_
            rw[hs]
            exact getD_mem' hlt3
           have c1:=hT.out.1.cell s hsj
           have f1:=hT.out.1.free s hsj
           have l1:=hT.out.1.lt
           have HT1:=hid_of (((hT.out.set s hsj (sm (ct s) (L.take i)+((((L.getD i (0,[])).2.take k).count s:Nat):Int)+1)).congr (F':=fun q=>sm (ct q) (L.take i)+((((L.getD i (0,[])).2.take (k+1)).count q:Nat):Int)) (fun q _=>ct_here L i k hiL hlt3 s hs q)).drew)
           obtain⟨cv1,hcv1⟩:∃ c,c=sm (ct s) (L.take i)+((((L.getD i (0,[])).2.take k).count s:Nat):Int):=⟨_,rfl⟩
           have hcb:0≤cv1∧cv1≤1000000000000:=by
            rw[hcv1]
            exact lim_bd HSM.out i (by omega) k s
           rw[← hcv1] at c1 HT1
           have hs0:(0:Int)≤(s:Int):=Int.natCast_nonneg _
           have hs1:(s:Int) < (j:Int):=by omega
           have hk0:(0:Int)≤(k:Int):=Int.natCast_nonneg _
           generalize hpl:(L.getD i (0,[])).2.length=pl at *
           have hk1:(k:Int) < (pl:Int):=by omega
           clear hs hcv1 hp n0 o0 hpc
           go_wp2_with fail
           go_region
           all_goals
            go_wp2_with fail
            go_roundw
            case rel=>exact⟨k+1,by omega,by go_num,HT1⟩
            case measure=>simp [intOf]; omega
          ·have hke:k=(L.getD i (0,[])).2.length:=by omega
           have HT1:Hid (LimSt w wr j (.slice (some ⟨g,0,none⟩) m cl) L (fun s=>sm (ct s) (L.take (i+1)))):=hT.out.congr (fun s _=>by rw [hke]; exact ct_done L i hiL s)
           clear hp n0 o0 hpc hT
           generalize hpl:(L.getD i (0,[])).2.length=pl at *
           subst hke
           go_wp2_with fail
           go_roundw
           case rel=>exact⟨i+1,by omega,by go_num,HT1⟩
           case measure=>simp [intOf]; omega
        ·obtain rfl:i=2 * posN f j - 2:=by omega
         have di:decide ((((2 * posN f j - 2:Nat)):Int) < 2 * ((posN f j:Nat):Int) - 2)=false:=decide_eq_false (by omega)
         have HT1:=hid_of (hS.out.1.congr (f':=limLen f j ((q+1:Nat):Int)) (fun s _=>by
          have h:=lim_more (f:=f) (n:=j) (z:=q+1) hP2 s
          rw[show q+1 - 1=q by omega,← HXE.out,← HLE.out] at h
          exact h))
         have HB:=hid_of hS.out.2.2
         clear hS
         generalize (2 * posN f j - 2)=i at *
         go_wp2_with fail
         go_ret2
         exact⟨rfl,HT1.out,HB.out⟩
end Go.Proofs.YtklpiihnbokkkaaGreatDoor
namespace Go.Proofs.YtklpiihnbokkkaaGreatDoor
open Go.RowKit Go.Joins OutMath PackageMath
end Go.Proofs.YtklpiihnbokkkaaGreatDoor

namespace Go.Proofs.YtklpiihnbokkkaaGreatDoor
open Go.RowKit Go.Joins InfMath
theorem order_cells (w:World):∀ i,i < 19→(w.alloc (.cells #[.int .i64 16,.int .i64 17,.int .i64 18,.int .i64 0,.int .i64 8,.int .i64 7,.int .i64 9,.int .i64 6,.int .i64 10,.int .i64 5,.int .i64 11,.int .i64 4,.int .i64 12,.int .i64 3,.int .i64 13,.int .i64 2,.int .i64 14,.int .i64 1,.int .i64 15] 3)).cell? ⟨w.heap.size,i,none⟩=some (.int .i64 ((orderL.getD i 0:Nat):Int)):=by
 intro i hi
 rw[cell_of_block (heap_alloc_new w _) i]
 have key:∀ i,i < 19→(#[Value.int .i64 16,.int .i64 17,.int .i64 18,.int .i64 0,.int .i64 8,.int .i64 7,.int .i64 9,.int .i64 6,.int .i64 10,.int .i64 5,.int .i64 11,.int .i64 4,.int .i64 12,.int .i64 3,.int .i64 13,.int .i64 2,.int .i64 14,.int .i64 1,.int .i64 15]:Array Value)[i]?=some (.int .i64 ((orderL.getD i 0:Nat):Int)):=by
  intro i hi
  match i,hi with
  | 0,_=>rfl
  | 1,_=>rfl
  | 2,_=>rfl
  | 3,_=>rfl
  | 4,_=>rfl
  | 5,_=>rfl
  | 6,_=>rfl
  | 7,_=>rfl
  | 8,_=>rfl
  | 9,_=>rfl
  | 10,_=>rfl
  | 11,_=>rfl
  | 12,_=>rfl
  | 13,_=>rfl
  | 14,_=>rfl
  | 15,_=>rfl
  | 16,_=>rfl
  | 17,_=>rfl
  | 18,_=>rfl
  | k+19,h=>exact absurd h (by omega)
 exact key i hi
set_option maxHeartbeats 800000 in
theorem specOrder (w:World):
  Calls Tryz.prog 114 #[] w fun e w'=>e=.returned (.slice (some ⟨w.heap.size,0,none⟩) 19 19)∧w.heap.size < w'.heap.size∧Below w.heap.size w w'∧∀ i,i < 19→w'.cell? ⟨w.heap.size,i,none⟩=some (.int .i64 ((orderL.getD i 0:Nat):Int)):=by
 have HZ:=hid_of (order_cells w)
 go_enter Tryz.func114,Tryz.ntmps114
 go_wp2_with fail
 go_ret
 exact⟨rfl,by simp,bstart _ _,HZ.out⟩
end Go.Proofs.YtklpiihnbokkkaaGreatDoor
