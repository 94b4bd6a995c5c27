/-
  Texts of the proof, put together.
-/
import Derived.Test.YtklpiihnbokkkaaGreatDoorZk44
namespace Go.Proofs.YtklpiihnbokkkaaGreatDoor
open Go.RowKit Go.Joins TokMath StepMath TrimMath TokLenMath PackageMath
def TlSt (w w':World) (g1 g2:Nat) (L:List Tok) (j:Nat):Prop:=IOwn w' w.heap.size g1 286 286 (cntA (L.take j))∧IOwn w' w.heap.size g2 30 30 (cntB (L.take j))∧g1≠g2∧Below w.heap.size w w'
theorem set_made (w1:World) (A B:Array Value) (tA tB:TypeId) (i:Nat) (v:Value):((w1.alloc (.cells A tA)).alloc (.cells B tB)).setCell ⟨w1.heap.size,i,none⟩ v=(w1.alloc (.cells (A.setIfInBounds i v) tA)).alloc (.cells B tB):=by simp [go_sem]
theorem take_snoc {L:List Tok} {j:Nat} (h:j < L.length):L.take (j+1)=L.take j ++ [L.getD j (0,0,0)]:=by
 rw[List.take_add_one,List.getElem?_eq_getElem h,List.getD_eq_getElem?_getD,List.getElem?_eq_getElem h]
 rfl
theorem TlSt.byte {w w':World} {g1 g2:Nat} {L:List Tok} {j xn:Nat} (h:TlSt w w' g1 g2 L j) (hj:j < L.length) (ht:L.getD j (0,0,0)=((xn:Int),0,0)) (hx:xn < 286):TlSt w ((w'.setCell ⟨g1,xn,none⟩ (.int .i64 (cntA (L.take j) xn+1))).drew) g1 g2 L (j+1):=by
 obtain⟨h1,h2,h3,h4⟩:=h
 refine⟨((h1.set xn hx _).congr fun i _=>?_).drew,((h2.grown (row:=some g1) ?_ (by simpa using h3)).congr fun i _=>?_).drew,h3,(Below.setCell (p:=⟨g1,xn,none⟩) h4 h1.base_le _).drew⟩
 ·rw[take_snoc hj,ht,← cntA_snoc]
  rfl
 ·exact⟨rfl,rfl,rfl,by simp [World.setCell],fun i _ hi=>by simp [World.setCell,Array.getElem?_modify,show ¬ g1=i from fun e=>hi (by rw [e])]⟩
 ·rw[take_snoc hj,ht,← cntB_byte _ _ rfl]
theorem TlSt.rep {w w':World} {g1 g2:Nat} {L:List Tok} {j an bn:Nat} {y z:Int} (h:TlSt w w' g1 g2 L j) (hj:j < L.length) (ht:L.getD j (0,0,0)=(0,y,z)) (hy:y≠0) (ha:(LengthCodeOf y).1=(an:Int)) (hb:(DistCodeOf z).1=(bn:Int)) (hx:an < 286) (hz:bn < 30):
  TlSt w ((w'.setCell ⟨g1,an,none⟩ (.int .i64 (cntA (L.take j) an+1))).setCell ⟨g2,bn,none⟩ (.int .i64 (cntB (L.take j) bn+1))) g1 g2 L (j+1):=by
 obtain⟨h1,h2,h3,h4⟩:=h
 have gr:∀ (X:World) (g i:Nat) (v:Value),X.grownBy (X.setCell ⟨g,i,none⟩ v) (some g):=fun X g i v=>⟨rfl,rfl,rfl,by simp [World.setCell],fun k _ hk=>by simp [World.setCell,Array.getElem?_modify,show ¬ g=k from fun e=>hk (by rw [e])]⟩
 have e1:sym1 (0,y,z)=an:=by rw [sym1_rep hy,ha]; rfl
 have e2:sym2 (0,y,z)=bn:=by unfold sym2; simp only []; rw [hb]; rfl
 refine⟨(((h1.set an hx _).grown (gr _ g2 bn _) (by simpa using fun e=>h3 e.symm)).congr fun i _=>?_),((h2.grown (gr _ g1 an _) (by simpa using h3)).set bn hz _).congr fun i _=>?_,h3,Below.setCell (p:=⟨g2,bn,none⟩) (Below.setCell (p:=⟨g1,an,none⟩) h4 h1.base_le _) h2.base_le _⟩
 ·rw[take_snoc hj,ht,← cntA_snoc,e1]
 ·rw[take_snoc hj,ht,← cntB_snoc _ _ hy,e2]
set_option maxRecDepth 100000 in
set_option maxHeartbeats 3200000 in
theorem specTokLen_good (a:Option Addr) (c:Nat) (L:List Tok) (w:World) (hC:TCame w a L.length (fun j=>L.getD j (0,0,0))) (hR:TokensRight L):
  Calls Tryz.prog 110 #[.slice a L.length c] w fun e w'=>∃ a1 c1 a2 c2,e=.returned (.tuple #[.slice a1 (trimN (limLen (cntA L) 286 15) 257 286) c1,.slice a2 (trimN (limLen (cntB L) 30 15) 1 30) c2,.bool true])∧SL w' w.heap.size a1 (trimN (limLen (cntA L) 286 15) 257 286) c1 (limLen (cntA L) 286 15)∧SL w' w.heap.size a2 (trimN (limLen (cntB L) 30 15) 1 30) c2 (limLen (cntB L) 30 15)∧Below w.heap.size w w':=by
 have hok:=specTokensOk a c L w hC (by have:=hR.1; omega)
 have HC:=hid_of hC
 have HR:=hid_of hR
 have h12:=hR.1
 rw[decide_eq_true hR] at hok
 clear hC hR
 go_enter Tryz.func110,Tryz.ntmps110
 go_wp2_with fail
 refine hok.mono ?_
 rintro e w1 ⟨rfl,hB1⟩
 clear hok
 have hm1:(Instr.makeSlice 25 (.int .i64 286) (.int .i64 286)).run Tryz.prog w1=_:=make_ints w1 286 (by omega)
 have hm2:∀ W:World,(Instr.makeSlice 25 (.int .i64 30) (.int .i64 30)).run Tryz.prog W=_:=fun W=>make_ints W 30 (by omega)
 have o1:IOwn (w1.alloc (.cells (madeCells #[Value.int .i64 0] 286) 3)) w.heap.size w1.heap.size 286 286 (fun _=>0):=IOwn.made w1 286 (by unfold maxLen; omega) hB1.size
 have o2:IOwn ((w1.alloc (.cells (madeCells #[Value.int .i64 0] 286) 3)).alloc (.cells (madeCells #[Value.int .i64 0] 30) 3)) w.heap.size (w1.heap.size+1) 30 30 (fun _=>0):=by
  have:=IOwn.made (base:=w.heap.size) (w1.alloc (.cells (madeCells #[Value.int .i64 0] 286) 3)) 30 (by unfold maxLen; omega) (by simp; have:=hB1.size; omega)
  simpa using this
 have o1':=o1.alloc (.cells (madeCells #[Value.int .i64 0] 30) 3)
 have q1:=o1'.cell 256 (by omega)
 have q2:=o1'.free 256 (by omega)
 have q3:=o1'.lt
 have HS:Hid (TlSt w (((w1.alloc (.cells (madeCells #[Value.int .i64 0] 286) 3)).alloc (.cells (madeCells #[Value.int .i64 0] 30) 3)).setCell ⟨w1.heap.size,256,none⟩ (.int .i64 1)) w1.heap.size (w1.heap.size+1) L 0):=by
  refine⟨(o1'.set 256 (by omega) 1).congr (fun i _=>?_),(o2.grown (row:=some w1.heap.size) ?_ (by simp)).congr (fun i _=>rfl),by omega,?_⟩
  ·unfold upd cntA
   simp
  ·exact⟨rfl,rfl,rfl,by simp [World.setCell],fun i _ hi=>by simp [World.setCell,Array.getElem?_modify,show ¬ w1.heap.size=i from fun e=>hi (by rw [e])]⟩
  ·exact Below.setCell (p:=⟨w1.heap.size,256,none⟩) (bal (bal hB1 _) _) hB1.size _
 have HB1:=hid_of hB1
 clear o1 o2 o1' hB1
 go_wp2_with fail
 clear hm1 hm2 q1 q2 q3
 have HCW:Hid (∀ W,Below w.heap.size w W→TCame W a L.length (fun j=>L.getD j (0,0,0))):=fun W h=>HC.out.called h
 clear HC
 rw[set_made] at HS
 generalize (w1.alloc _).alloc _=X0 at HS ⊢
 generalize w1.heap.size=G at HS ⊢
 go_loopg [7] (L.length+1) (fun gk i w'=>∃ (j:Nat),j≤L.length∧L.length - j≤gk∧i=.int .i64 j∧Hid (TlSt w w' G (G+1) L j))
 case atStart=>exact⟨0,Nat.zero_le _,by omega,rfl,HS⟩
 case round=>
  obtain⟨j,hj,hgk,rfl,hS⟩:=hrel
  by_cases hlt:j < L.length
  ·have dl:decide ((j:Int) < (L.length:Int))=true:=decide_eq_true (by omega)
   rcases HCW.out wr hS.out.2.2.2 with q | ⟨g,off,rfl,hg,hc⟩
   ·omega
   obtain⟨f0,f1,f2⟩:=hc j hlt
   simp only [] at f0 f1 f2
   have HTK:=hid_of (take_snoc hlt)
   have hTR:TokRight (L.getD j (0,0,0)):=HR.out.2 _ (by rw [List.getD_eq_getElem?_getD,List.getElem?_eq_getElem hlt]; exact List.getElem_mem hlt)
   have HLE:Hid (∀ t∈L.take j,TokRight t):=fun t ht=>HR.out.2 t (List.mem_of_mem_take ht)
   have hca:=fun i=>cntA_le HLE.out (by rw [List.length_take]; omega) i
   have hcb:=fun i=>cntB_le (L:=L.take j) (by rw [List.length_take]; omega) i
   obtain⟨⟨x,y,z⟩,hr⟩:∃ r,r=L.getD j (0,0,0):=⟨_,rfl⟩
   rw[← hr] at f0 f1 f2 hTR
   have HT:=hid_of hr.symm
   clear hc hr
   by_cases hy:y=0
   ·subst hy
    unfold TokRight at hTR
    rw[if_pos rfl] at hTR
    obtain⟨⟨hx0,hx1⟩,hz⟩:=hTR
    simp only [] at hx0 hx1 hz
    subst hz
    obtain⟨xn,rfl⟩:=Int.eq_ofNat_of_zero_le hx0
    have hxn:xn < 286:=by omega
    have c1:=hS.out.1.cell xn hxn
    have k1:=hS.out.1.free xn hxn
    have l1:=hS.out.1.lt
    have b1:=hca xn
    have HNX:=hid_of (hS.out.byte hlt HT.out hxn)
    obtain⟨V,hV⟩:∃ V,V=cntA (L.take j) xn:=⟨_,rfl⟩
    rw[← hV] at c1 b1 HNX
    clear hV hca hcb hS
    go_wp2_with fail
    go_region
    all_goals
     go_wp2_with fail
     go_roundg (L.length - (j+1))
     case measure=>omega
     case rel=>exact⟨j+1,by omega,Nat.le_refl _,by go_num,HNX⟩
   ·have dy:(y == 0)=false:=by simpa using hy
    unfold TokRight at hTR
    rw[if_neg hy] at hTR
    obtain⟨hx,hy2,hz2⟩:=hTR
    simp only [] at hx hy2 hz2
    subst hx
    have ra:=len_range hy2
    have rb:=dist_range hz2
    obtain⟨an,ha⟩:=Int.eq_ofNat_of_zero_le (show 0≤(LengthCodeOf y).1 by omega)
    obtain⟨bn,hb⟩:=Int.eq_ofNat_of_zero_le (show 0≤(DistCodeOf z).1 by omega)
    have hxa:an < 286:=by omega
    have hxb:bn < 30:=by omega
    have HNX:=hid_of (hS.out.rep hlt HT.out hy ha hb hxa hxb)
    have hl:=fun W=>specLenCode y W
    have hd:=fun W=>specDistCode z W
    rw[ha] at hl
    rw[hb] at hd
    generalize (LengthCodeOf y).2.1=l2 at hl
    generalize (LengthCodeOf y).2.2=l3 at hl
    generalize (DistCodeOf z).2.1=m2 at hd
    generalize (DistCodeOf z).2.2=m3 at hd
    have c1:=hS.out.1.cell an hxa
    have k1:=hS.out.1.free an hxa
    have l1:=hS.out.1.lt
    have b1:=hca an
    have c2:=hS.out.2.1.cell bn hxb
    have k2:=hS.out.2.1.free bn hxb
    have l2':=hS.out.2.1.lt
    have b2:=hcb bn
    obtain⟨V,hV⟩:∃ V,V=cntA (L.take j) an:=⟨_,rfl⟩
    obtain⟨U,hU⟩:∃ U,U=cntB (L.take j) bn:=⟨_,rfl⟩
    rw[← hV] at c1 b1 HNX
    rw[← hU] at c2 b2 HNX
    clear hV hU hca hcb hS ha hb ra rb
    go_wp2_with fail
    refine (hl _).mono ?_
    rintro e w2 ⟨rfl,rfl⟩
    go_wp2_with fail
    refine (hd _).mono ?_
    rintro e w3 ⟨rfl,rfl⟩
    go_wp2_with fail
    go_roundg (L.length - (j+1))
    case measure=>omega
    case rel=>exact⟨j+1,by omega,Nat.le_refl _,by go_num,HNX⟩
  ·obtain rfl:j=L.length:=by omega
   have dl:decide ((L.length:Int) < (L.length:Int))=false:=decide_eq_false (by omega)
   have HE:Hid (IOwn wr w.heap.size G 286 286 (cntA L)∧IOwn wr w.heap.size (G+1) 30 30 (cntB L)∧Below w.heap.size w wr):=by
    obtain⟨h1,h2,_,h4⟩:=hS.out
    rw[List.take_length] at h1 h2
    exact⟨h1,h2,h4⟩
   clear hS
   have HL1:=hid_of (limit_right (n:=286) (by omega) (fun i=>cntA_le HR.out.2 h12 i))
   have HL2:=hid_of (limit_right (n:=30) (by omega) (fun i=>cntB_le h12 i))
   go_wp2_with fail
   refine (specLimit_good _ 286 286 (cntA L) 15 wr HE.out.1.sl.came HL1.out).mono ?_
   rintro e w2 ⟨rfl,o1,hB2⟩
   have HE2:Hid (IOwn w2 w.heap.size wr.heap.size 286 286 (limLen (cntA L) 286 15)∧IOwn w2 w.heap.size (G+1) 30 30 (cntB L)∧Below w.heap.size w w2):=⟨o1.mono HE.out.2.2.size,HE.out.2.1.called hB2,bnext HE.out.2.2 hB2⟩
   clear o1 hB2 HE
   go_wp2_with fail
   refine (specLimit_good _ 30 30 (cntB L) 15 w2 HE2.out.2.1.sl.came HL2.out).mono ?_
   rintro e w3 ⟨rfl,o2,hB3⟩
   have HE3:Hid (IOwn w3 w.heap.size wr.heap.size 286 286 (limLen (cntA L) 286 15)∧IOwn w3 w.heap.size w2.heap.size 30 30 (limLen (cntB L) 30 15)∧Below w.heap.size w w3):=⟨HE2.out.1.called hB3,o2.mono HE2.out.2.2.size,bnext HE2.out.2.2 hB3⟩
   clear o2 hB3 HE2
   go_wp2_with fail
   refine (specTrim _ 286 286 257 _ w3 HE3.out.1.sl.came (by omega) (by omega) (by omega) (by omega)).mono ?_
   rintro e w4 ⟨rfl,rfl⟩
   go_wp2_with fail
   refine (specTrim _ 30 30 1 _ w4 HE3.out.2.1.sl.came (by omega) (by omega) (by omega) (by omega)).mono ?_
   rintro e w5 ⟨rfl,rfl⟩
   go_wp2_with fail
   refine bodyPost_ret (v:=.tuple #[.slice (some ⟨wr.heap.size,0,none⟩) (trimN (limLen (cntA L) 286 15) 257 286) 286,.slice (some ⟨w2.heap.size,0,none⟩) (trimN (limLen (cntB L) 30 15) 1 30) 30,.bool true]) ?_ rfl ⟨_,_,_,_,rfl,(iown_cut HE3.out.1 (trimN_le _ _ _)).sl,(iown_cut HE3.out.2.1 (trimN_le _ _ _)).sl,HE3.out.2.2⟩
   simp[results,Tryz.results110,go_sem]
set_option maxHeartbeats 1600000 in
theorem specTokLen_bad (a:Option Addr) (c:Nat) (L:List Tok) (w:World) (hC:TCame w a L.length (fun j=>L.getD j (0,0,0))) (hn:L.length≤1048576) (hR:¬ TokensRight L):
  Calls Tryz.prog 110 #[.slice a L.length c] w fun e w'=>∃ a1 a2,e=.returned (.tuple #[.slice a1 0 0,.slice a2 0 0,.bool false])∧Below w.heap.size w w':=by
 have hok:=specTokensOk a c L w hC hn
 rw[decide_eq_false hR] at hok
 clear hC hR
 go_enter Tryz.func110,Tryz.ntmps110
 go_wp2_with fail
 refine hok.mono ?_
 rintro e w1 ⟨rfl,hB1⟩
 clear hok
 go_wp2_with fail
 refine bodyPost_ret (v:=.tuple #[.slice (some ⟨w1.heap.size,0,none⟩) 0 0,.slice (some ⟨w1.heap.size+1,0,none⟩) 0 0,.bool false]) ?_ rfl ⟨_,_,rfl,bal (bal hB1 _) _⟩
 simp[results,Tryz.results110,go_sem]
end Go.Proofs.YtklpiihnbokkkaaGreatDoor
