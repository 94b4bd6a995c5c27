/-
  Texts of the proof, put together.
-/
import Derived.Test.YtklpiihnbokkkaaGreatDoorFk01
import Derived.Deep.LoopGhost
import Derived.Deep.AppendLies
import Derived.Laws.AppendOwnNone
namespace Go.Proofs.YtklpiihnbokkkaaGreatDoor
section
open Go.RowKit Go.Joins TokMath
def ByD (w0 w:World) (base b g n cap:Nat) (O:List Int):Prop:=Cur w base b∧BOwn w base g n cap O∧Below base w0 w∧g≠b
section
variable {w0 w w':World} {base b g n cap:Nat} {O:List Int}
theorem ByD.drawn (h:ByD w0 w base b g n cap O) (hg:w.grownBy w' (some b)) (hC:Cur w' base b):ByD w0 w' base b g n cap O:=by
 obtain⟨h1,h2,h3,h4⟩:=h
 exact⟨hC,h2.keep (hg.block g h2.lt (fun e=>h4 (Option.some.inj e))),h3.trans (below_of_grown hg h1.base_le h1.lt),h4⟩
theorem ByD.called (h:ByD w0 w base b g n cap O) (hb:Below w.heap.size w w'):ByD w0 w' base b g n cap O:=by
 obtain⟨h1,h2,h3,h4⟩:=h
 have hl:=h1.lt
 have hbb:=h1.base_le
 exact⟨h1.keep (hb.block _ hl) (hb.mono (by omega)),h2.called hb,h3.trans (hb.mono (by omega)),h4⟩
theorem ByD.app {x:Int} {o:Obj} {g1 cap1:Nat} (h:ByD w0 w base b g n cap O) (hO:BOwn w' base g1 (n+1) cap1 (O ++ [x])) (hg:g1=g∨w.heap.size+1≤g1) (hgr:(w.alloc o).grownBy w' (some g)):ByD w0 w' base b g1 (n+1) cap1 (O ++ [x]):=by
 have hA:=h.called (bstart w o)
 obtain⟨h1,h2,h3,h4⟩:=hA
 have hb:=h2.base_le
 have hl:=h2.lt
 have hlb:=h.1.lt
 refine⟨h1.grown hgr (fun e=>h4 (Option.some.inj e)) (fun k hk=>by cases hk; exact hb),hO,h3.grown hgr (by omega) (fun k hk=>by cases hk; exact hb),?_⟩
 rcases hg with e | e
 ·rw[e]; exact h4
 ·omega
end
set_option maxHeartbeats 8000000 in
theorem draw_text7 (base b:Nat) (n:Nat) (w:World) (hC:Cur w base b) (hn:n≤300):
  Calls Tryz.prog 16 #[.pointer (some ⟨b,0,none⟩),.int .i64 (n:Int)] w fun e w'=>∃ s:ByteArray,e=.returned (.string s)∧s.size≤400∧Below base w w':=by
 have H0:Hid (ByD w (w.alloc (.cells #[] 5)) base b w.heap.size 0 0 []):=by
  have h1:=hC.lt
  have h2:=hC.base_le
  refine⟨hC.alloc _,⟨rfl,0,#[],(0,0),rfl,by omega,heap_alloc_new w _,.inl rfl,Nat.le_refl _,Nat.zero_le _,rfl,rfl⟩,(Below.refl base w).alloc (by omega) _,by omega⟩
 clear hC
 go_enter Tryz.func16,Tryz.ntmps16
 go_wp2_with fail
 refine (draw_below base b ((n:Int)+1) _ H0.out.1).mono ?_
 rintro e w1 ⟨q,rfl,hq,hC1,hg1⟩
 have hq0:=hq.1
 have hq1:=hq.2.1 (by omega)
 have H1:=hid_of (H0.out.drawn hg1 hC1)
 obtain⟨W,rfl⟩:=Int.eq_ofNat_of_zero_le hq0
 have hW:W≤300:=by omega
 obtain⟨gz,hgz⟩:∃ gz,gz=w.heap.size:=⟨_,rfl⟩
 have H2:Hid (ByD w w1 base b gz 0 0 []):=by rw [hgz]; exact H1
 rw[← hgz]
 clear hq hq0 hq1 hC1 hg1 H0 H1 hgz
 go_wp2_with fail
 go_loopg [5] (W+1) (fun gk v w'=>∃ (g m cp:Nat) (O:List Int),v=.slice (some ⟨g,0,none⟩) m cp∧W - m≤gk∧m≤W+13∧Hid (ByD w w' base b g m cp O))
 case atStart=>exact⟨gz,0,0,[],rfl,by omega,by omega,H2⟩
 case round=>
  clear H2
  obtain⟨g,m,cp,O,rfl,hgk,hm,hS⟩:=hrel
  by_cases hlt:m < W
  ·have dl:decide ((m:Int) < (W:Int))=true:=decide_eq_true (by omega)
   by_cases h3:3 < m
   ·have d3:decide ((3:Int) < (m:Int))=true:=decide_eq_true (by omega)
    have d3':decide (3 < m)=true:=decide_eq_true h3
    go_wp2_with fail
    refine (draw_once base b 2 _ hS.out.1).mono ?_
    rintro e w2 ⟨bo,rfl,hC2,hg2⟩
    have H2:=hid_of (hS.out.drawn hg2 hC2)
    clear hC2 hg2 hS
    cases bo
    ·go_wp2_with fail
     refine (draw_byte base b _ H2.out.1).mono ?_
     rintro e w5 ⟨xb,rfl,hb0,hb1,hC5,hg5⟩
     have H5:=hid_of (H2.out.drawn hg5 hC5)
     have H6:=hid_of (H5.out.called (bstart w5 (.cells #[.int .i64 97,.int .i64 98,.int .i64 99,.int .i64 0,.int .i64 200,.int .i64 xb] 3)))
     have hlb:=H5.out.1.lt
     clear hC5 hg5 H2
     go_wp2_with fail
     refine (draw_pickInt base b w5.heap.size 6 6 (fun x=>0≤x∧x≤255) _ H6.out.1 (by omega) (by omega) (by simp) (fun j hj=>?_)).mono ?_
     ·match j,hj with
      | 0,_=>exact⟨97,by simp,by omega,by omega⟩
      | 1,_=>exact⟨98,by simp,by omega,by omega⟩
      | 2,_=>exact⟨99,by simp,by omega,by omega⟩
      | 3,_=>exact⟨0,by simp,by omega,by omega⟩
      | 4,_=>exact⟨200,by simp,by omega,by omega⟩
      | 5,_=>exact⟨xb,by simp,by omega,by omega⟩
     rintro e w6 ⟨x,rfl,⟨hx0,hx1⟩,hC6,hg6⟩
     have H7:=hid_of (H6.out.drawn hg6 hC6)
     clear hC6 hg6 H6 H5
     have hw8:IntKind.u8.wrap x=x:=by
      simp[IntKind.wrap,IntKind.bits,IntKind.signed]
      omega
     go_wp2_with (at_builtin; refine bytes_append (base:=base) (O:=O) rfl _ _ rfl rfl (H7.out.2.1.called (bstart _ _)) w6.heap.size 1 x rfl (by simp) (by omega) ?_)
     intro g1 cap1 w7 y1 y2 y3
     have H8:=hid_of (H7.out.app y1 (by simpa using y2) y3)
     clear y1 y2 y3 H7
     go_wp2_with fail
     go_roundg (W - (m+1))
     case measure=>omega
     case rel=>exact⟨g1,m+1,cap1,_,rfl,Nat.le_refl _,by omega,H8⟩
    ·go_wp2_with fail
     refine (draw_below base b (m:Int) _ H2.out.1).mono ?_
     rintro e w3 ⟨q,rfl,hq,hC3,hg3⟩
     have hq0:=hq.1
     have hq1:=hq.2.1 (by omega)
     obtain⟨fr,rfl⟩:=Int.eq_ofNat_of_zero_le hq0
     have hfr:fr < m:=by omega
     have H3:=hid_of (H2.out.drawn hg3 hC3)
     clear hq hq0 hq1 hC3 hg3 H2
     go_wp2_with fail
     go_loopg [5,8] 14 (fun gk v y w'=>∃ (k g2 cp2:Nat) (O2:List Int),k≤13∧13 - k≤gk∧y=.int .i64 (k:Int)∧v=.slice (some ⟨g2,0,none⟩) (m+k) cp2∧Hid (ByD w w' base b g2 (m+k) cp2 O2))
     case atStart=>exact⟨0,g,cp,O,by omega,by omega,rfl,rfl,H3⟩
     case round=>
      clear H3
      obtain⟨k,g2,cp2,O2,hk,hgk2,rfl,rfl,hS2⟩:=hrel
      go_wp2_with fail
      refine (draw_below base b 12 _ hS2.out.1).mono ?_
      rintro e w4 ⟨q,rfl,hq,hC4,hg4⟩
      have hq0:=hq.1
      have hq1:=hq.2.1 (by omega)
      have H4:=hid_of (hS2.out.drawn hg4 hC4)
      clear hq hC4 hg4 hS2
      by_cases hkq:(k:Int) < 2+q
      ·have dk:decide ((k:Int) < 2+q)=true:=decide_eq_true hkq
       have k1:((fr:Int)+(k:Int)).toNat=fr+k:=by omega
       have k2:(0:Int)≤(fr:Int)+(k:Int):=by omega
       have k3:(fr:Int)+(k:Int) < ((m+k:Nat):Int):=by omega
       have k4:(fr:Int)+(k:Int) < (m:Int)+(k:Int):=by omega
       have cq:=H4.out.2.1.cell (fr+k) (by omega)
       have mg:=H4.out.2.1.lt
       obtain⟨x,hx⟩:∃ x,x=O2.getD (fr+k) 0:=⟨_,rfl⟩
       rw[← hx] at cq
       clear hx
       go_wp2_with (at_builtin; refine bytes_append (base:=base) (O:=O2) rfl _ _ rfl rfl (H4.out.2.1.called (bstart _ _)) w4.heap.size 1 x rfl (by simp) (by omega) ?_)
       intro g1 cap1 w7 y1 y2 y3
       have H8:=hid_of (H4.out.app y1 (by simpa using y2) y3)
       clear y1 y2 y3 H4
       go_wp2_with fail
       go_roundg (13 - (k+1))
       case measure=>omega
       case rel=>exact⟨k+1,g1,cap1,_,by omega,Nat.le_refl _,by go_num,rfl,H8⟩
      ·have dk:decide ((k:Int) < 2+q)=false:=decide_eq_false hkq
       go_wp2_with fail
       go_roundg (W - (m+k))
       case measure=>omega
       case rel=>exact⟨g2,m+k,cp2,O2,rfl,Nat.le_refl _,by omega,H4⟩
   ·have d3:decide ((3:Int) < (m:Int))=false:=decide_eq_false (by omega)
    have d3':decide (3 < m)=false:=decide_eq_false h3
    go_wp2_with fail
    refine (draw_byte base b _ hS.out.1).mono ?_
    rintro e w5 ⟨xb,rfl,hb0,hb1,hC5,hg5⟩
    have H5:=hid_of (hS.out.drawn hg5 hC5)
    have H6:=hid_of (H5.out.called (bstart w5 (.cells #[.int .i64 97,.int .i64 98,.int .i64 99,.int .i64 0,.int .i64 200,.int .i64 xb] 3)))
    have hlb:=H5.out.1.lt
    clear hC5 hg5 hS
    go_wp2_with fail
    refine (draw_pickInt base b w5.heap.size 6 6 (fun x=>0≤x∧x≤255) _ H6.out.1 (by omega) (by omega) (by simp) (fun j hj=>?_)).mono ?_
    ·match j,hj with
     | 0,_=>exact⟨97,by simp,by omega,by omega⟩
     | 1,_=>exact⟨98,by simp,by omega,by omega⟩
     | 2,_=>exact⟨99,by simp,by omega,by omega⟩
     | 3,_=>exact⟨0,by simp,by omega,by omega⟩
     | 4,_=>exact⟨200,by simp,by omega,by omega⟩
     | 5,_=>exact⟨xb,by simp,by omega,by omega⟩
    rintro e w6 ⟨x,rfl,⟨hx0,hx1⟩,hC6,hg6⟩
    have H7:=hid_of (H6.out.drawn hg6 hC6)
    clear hC6 hg6 H6 H5
    have hw8:IntKind.u8.wrap x=x:=by
     simp[IntKind.wrap,IntKind.bits,IntKind.signed]
     omega
    go_wp2_with (at_builtin; refine bytes_append (base:=base) (O:=O) rfl _ _ rfl rfl (H7.out.2.1.called (bstart _ _)) w6.heap.size 1 x rfl (by simp) (by omega) ?_)
    intro g1 cap1 w7 y1 y2 y3
    have H8:=hid_of (H7.out.app y1 (by simpa using y2) y3)
    clear y1 y2 y3 H7
    go_wp2_with fail
    go_roundg (W - (m+1))
    case measure=>omega
    case rel=>exact⟨g1,m+1,cap1,_,rfl,Nat.le_refl _,by omega,H8⟩
  ·have dl:decide ((m:Int) < (W:Int))=false:=decide_eq_false (by omega)
   have hct:=bown_text (k:=0) (c:=cp) hS.out.2.1 (Nat.zero_le _)
   rw[Nat.sub_zero,List.drop_zero] at hct
   have HZ:Hid ((strOfNums O).size≤400∧Below base w wr):=by
    refine⟨?_,hS.out.2.2.1⟩
    have h1:=hS.out.2.1.1
    rw[strOfNums_size]
    omega
   go_wp2_with fail
   go_ret
   exact⟨_,rfl,HZ.out⟩
set_option maxHeartbeats 800000 in
theorem draw_data (a:Option Addr) (len cap:Nat) (base:Nat) (w:World) (hK:CodeAt w base a len) (hlen:len≤1048576) (hbase:base≤w.heap.size):
  Calls Tryz.prog 8 #[.slice a len cap] w fun e w'=>∃ s:ByteArray,e=.returned (.string s)∧s.size≤400∧Below base w w':=by
 have HK:Hid (CodeAt w base a len):=hK
 clear hK
 go_enter Tryz.func8,Tryz.ntmps8
 go_wp2_with fail
 refine (draw_new a len cap base w HK.out hlen hbase).mono ?_
 rintro e w1 ⟨rfl,hC1,o,rfl⟩
 have HB1:Hid (Below base w (w.alloc o)):=(Below.refl base w).alloc hbase o
 obtain⟨b,hb⟩:∃ b,b=w.heap.size:=⟨_,rfl⟩
 have HC1:Hid (Cur (w.alloc o) base b):=by rw [hb]; exact hC1
 clear hC1
 generalize w.alloc o=w2 at *
 rw[← hb]
 clear hb hbase
 go_wp2_with fail
 refine (draw_size a len cap _ hlen).mono ?_
 rintro e w3 ⟨n,rfl,hn0,hn1,rfl⟩
 obtain⟨k,rfl⟩:=Int.eq_ofNat_of_zero_le (show 0≤n by omega)
 have hdt:=draw_text7 base b k w3 HC1.out (by omega)
 go_wp2_with fail
 refine hdt.mono ?_
 rintro e w5 ⟨s,rfl,hs,hB⟩
 have HZ:=hid_of (And.intro hs (HB1.out.trans hB))
 clear hs hB hdt
 go_wp2_with fail
 go_ret
 exact⟨s,rfl,HZ.out⟩
end
section
open Go.RowKit Go.Joins
def DL (e:TypeId) (w0 w:World) (base b g cap:Nat) (vs:List Value):Prop:=
 Cur w base b∧Own e w base g (.slice (some ⟨g,0,none⟩) vs.length cap) vs∧g≠b∧Below base w0 w
section
variable {e:TypeId} {w0 w w':World} {base b g cap:Nat} {vs:List Value}
theorem DL.start (hC:Cur w base b) (hB:Below base w0 w) (e:TypeId):DL e w0 (w.alloc (.cells #[] e)) base b w.heap.size 0 []:=by
 have hl:=hC.lt
 have hb:=hC.base_le
 refine⟨hC.alloc _,⟨0,#[],(0,0),rfl,by omega,heap_alloc_new w _,.inl rfl,Nat.le_refl _,Nat.zero_le _,rfl,rfl⟩,by omega,hB.alloc (by omega) _⟩
theorem DL.drawn (h:DL e w0 w base b g cap vs) (hg:w.grownBy w' (some b)) (hC:Cur w' base b):DL e w0 w' base b g cap vs:=by
 obtain⟨h1,h2,h3,h4⟩:=h
 exact⟨hC,h2.keep (hg.block g h2.lt (by simpa using h3)),h3,h4.trans (below_of_grown hg h1.base_le h1.lt)⟩
theorem DL.called (h:DL e w0 w base b g cap vs) (hb:Below w.heap.size w w'):DL e w0 w' base b g cap vs:=by
 obtain⟨h1,h2,h3,h4⟩:=h
 have l1:=h1.lt
 have l2:=h2.lt
 have lb:=h1.base_le
 exact⟨h1.keep (hb.block b l1) (hb.mono (by omega)),h2.below hb l2,h3,h4.trans (hb.mono (by omega))⟩
theorem DL.app (h:DL e w0 w base b g cap vs) {o:Obj} {x:Value} {g':Nat} {u:Value} (hO:Own e w' base g' u (vs ++ [x])) (hg:g'=g∨w.heap.size+1≤g') (hgr:(w.alloc o).grownBy w' (some g)):
  ∃ c',u=.slice (some ⟨g',0,none⟩) (vs.length+1) c'∧DL e w0 w' base b g' c' (vs ++ [x]):=by
 obtain⟨h1,h2,h3,h4⟩:=h
 have l1:=h1.lt
 have l2:=h2.lt
 have hb:=h1.base_le
 obtain⟨c',hu⟩:=hO.form
 have hsz:(w.alloc o).heap.size=w.heap.size+1:=by simp
 rw[hu] at hO
 refine⟨c',by rw [hu]; simp,(h1.alloc o).grown hgr (by simpa using h3) (fun k hk=>by cases hk; exact h2.base_le),hO,?_,?_⟩
 ·rcases hg with rfl | hg
  ·exact h3
  ·omega
 ·exact (h4.alloc (by omega) o).grown hgr (by rw [hsz]; omega) (fun k hk=>by cases hk; exact h2.base_le)
theorem DL.set (h:DL e w0 w base b g cap vs) (j:Nat) (hj:j < vs.length) (u:Value):DL e w0 (w.setCell ⟨g,j,none⟩ u) base b g cap (vs.set j u):=by
 obtain⟨h1,h2,h3,h4⟩:=h
 have h5:=h2.set j hj u
 refine⟨h1.setCell _ _ h3 h2.base_le,by rw [List.length_set]; exact h5,h3,Below.setCell (p:=⟨g,j,none⟩) h4 h2.base_le _⟩
theorem DL.cell (h:DL e w0 w base b g cap vs) (j:Nat) (hj:j < vs.length):w.cell? ⟨g,j,none⟩=some vs[j]:=h.2.1.cell j hj
theorem DL.free (h:DL e w0 w base b g cap vs) (j:Nat) (hj:j < vs.length):w.frozen? ⟨g,j,none⟩=false:=h.2.1.free j hj
theorem DL.drew (h:DL e w0 w base b g cap vs):DL e w0 w.drew base b g cap vs:=by
 obtain⟨h1,h2,h3,h4⟩:=h
 exact⟨h1.drew,h2.drewN 1,h3,h4.drew⟩
theorem DL.below (h:DL e w0 w base b g cap vs):Below base w0 w:=h.2.2.2
theorem DL.own (h:DL e w0 w base b g cap vs):Own e w base g (.slice (some ⟨g,0,none⟩) vs.length cap) vs:=h.2.1
theorem DL.cur (h:DL e w0 w base b g cap vs):Cur w base b:=h.1
end
def i64s (zs:List Int):List Value:=zs.map (Value.int .i64)
theorem i64s_length (zs:List Int):(i64s zs).length=zs.length:=List.length_map _
theorem i64s_app (zs:List Int) (x:Int):i64s zs ++ [.int .i64 x]=i64s (zs ++ [x]):=by simp [i64s]
theorem i64s_get (zs:List Int) (j:Nat) (h:j < (i64s zs).length):(i64s zs)[j]=.int .i64 (zs.getD j 0):=by
 have h':j < zs.length:=by rw [← i64s_length]; exact h
 simp[i64s,List.getD_eq_getElem?_getD,List.getElem?_eq_getElem h']
end
section
open Go.RowKit Go.Joins
theorem info_num:(Tryz.prog.info? 3).map (fun i=>(i.zero,i.size,i.bytes))=some (some (.int .i64 0),1,8):=by kernel_rfl
set_option maxHeartbeats 800000 in
theorem draw_places (a:Option Addr) (len cap:Nat) (base:Nat) (w:World) (hK:CodeAt w base a len) (hlen:len≤1048576) (hbase:base≤w.heap.size):
  Calls Tryz.prog 9 #[.slice a len cap] w fun e w'=>∃ (g c:Nat) (zs:List Int),e=.returned (.slice (some ⟨g,0,none⟩) 12 c)∧zs.length=12∧(∀ z∈zs,0≤z∧z < 10000)∧Own 3 w' base g (.slice (some ⟨g,0,none⟩) 12 c) (i64s zs)∧Below base w w':=by
 have HK:Hid (CodeAt w base a len):=hK
 clear hK
 go_enter Tryz.func9,Tryz.ntmps9
 go_wp2_with fail
 refine (draw_new a len cap base w HK.out hlen hbase).mono ?_
 rintro e w1 ⟨rfl,hC1,o,rfl⟩
 have HB1:Hid (Below base w (w.alloc o)):=(Below.refl base w).alloc hbase o
 have HC1:Hid (Cur (w.alloc o) base w.heap.size):=hC1
 clear hC1
 go_wp2_with fail
 refine (draw_byte base _ _ HC1.out).mono ?_
 rintro e w2 ⟨x,rfl,hx0,hx1,hC2,hg2⟩
 have HB2:Below base w w2:=HB1.out.trans (below_of_grown hg2 HC1.out.base_le HC1.out.lt)
 have H0:Hid (DL 3 w (w2.alloc (.cells #[] 3)) base w.heap.size w2.heap.size 0 []):=DL.start hC2 HB2 _
 clear hC2 hg2 HC1 HB1 HB2
 go_wp2_with fail
 go_loopw [4,5] (fun v i w'=>∃ (j g cap:Nat) (zs:List Int),j≤12∧i=.int .i64 j∧v=.slice (some ⟨g,0,none⟩) j cap∧Hid (zs.length=j∧∀ z∈zs,0≤z∧z < 10000)∧Hid (DL 3 w w' base w.heap.size g cap (i64s zs))) (fun _ i _=>12 - (intOf i).toNat)
 case atStart=>exact⟨0,w2.heap.size,0,[],by omega,rfl,rfl,⟨rfl,fun z hz=>by cases hz⟩,H0⟩
 case round=>
  obtain⟨j,g,cap,zs,hj,rfl,rfl,hz,hD⟩:=hrel
  by_cases hlt:j < 12
  ·go_wp2_with fail
   refine (draw_below base _ _ _ hD.out.cur).mono ?_
   rintro e w3 ⟨y,rfl,hy,hC3,hg3⟩
   have HD3:Hid (DL 3 w w3 base w.heap.size g cap (i64s zs)):=hD.out.drawn hg3 hC3
   have hy1:0≤y∧y < 10000:=⟨hy.1,hy.2.1 (by omega)⟩
   have HO:Hid (Own 3 w3 base g (.slice (some ⟨g,0,none⟩) j cap) (i64s zs)):=by
    have h:=HD3.out.own
    rw[i64s_length,hz.out.1] at h
    exact h
   clear hC3 hg3 hD hy
   obtain⟨i0,hi0,hz0,hz1,hz2⟩:=info_parts info_num
   have hl:(i64s zs).length+1≤maxLen∧((i64s zs).length+1) * 8≤140737488355328:=by rw [i64s_length,hz.out.1]; unfold maxLen; omega
   go_wp2_with (at_builtin; refine wpList_append1 rfl _ _ 25 rfl i0 (.int .i64 0) 8 Tryz.underlying25 hi0 hz0 hz1 hz2 rfl rfl (HO.out.alloc _) ⟨w3.heap.size,0,none⟩ 1 (.int .i64 y) rfl ?c1 rfl rfl hl.1 hl.2 ?_)
   case c1=>simp
   ·intro g1 v1 w4 hO1 hg1 hgr
    obtain⟨cap1,hv1,hD2⟩:=HD3.out.app hO1 (by simpa using hg1) hgr
    rw[i64s_length,hz.out.1] at hv1
    rw[hv1]
    rw[i64s_app] at hD2
    have HD2:Hid (DL 3 w w4 base w.heap.size g1 cap1 (i64s (zs ++ [y]))):=hD2
    have HZ:Hid ((zs ++ [y]).length=j+1∧∀ z∈zs ++ [y],0≤z∧z < 10000):=by
     obtain⟨h1,h2⟩:=hz.out
     refine⟨by simp [h1],fun z hz=>?_⟩
     rcases List.mem_append.mp hz with h | h
     ·exact h2 z h
     ·rw[List.mem_singleton.mp h]; exact hy1
    clear hO1 hg1 hgr hv1 hi0 hz0 hz1 hz2 hl hD2 HD3 HO
    go_wp2_with fail
    go_roundw
    case rel=>exact⟨j+1,g1,cap1,zs ++ [y],by omega,by go_num,rfl,HZ,HD2⟩
    case measure=>simp [intOf]; omega
  ·obtain rfl:j=12:=by omega
   go_wp2_with fail
   go_ret
   have h:=hD.out.own
   rw[i64s_length,hz.out.1] at h
   exact⟨g,cap,zs,rfl,hz.out.1,hz.out.2,h,hD.out.below⟩
end
section
namespace AdlerMath
def byteAt (s:ByteArray) (i:Nat):Nat:=(s.data[i]?.getD 0).toNat
theorem byteAt_lt (s:ByteArray) (i:Nat):byteAt s i < 256:=UInt8.toNat_lt _
theorem byteAt_get (s:ByteArray) (i:Nat) (h:i < s.size):(s[i]'h).toNat=byteAt s i:=by
 unfold byteAt
 have h':i < s.data.size:=h
 rw[Array.getElem?_eq_getElem h']
 rfl
def adP (s:ByteArray) (p:Int):Nat→Int
 | 0=>p
 | k+1=>(adP s p k+(byteAt s k:Int)) % 65521
def adQ (s:ByteArray) (p q:Int):Nat→Int
 | 0=>q
 | k+1=>(adQ s p q k+adP s p (k+1)) % 65521
theorem adP_succ (s:ByteArray) (p:Int) (k:Nat):adP s p (k+1)=(adP s p k+(byteAt s k:Int)) % 65521:=rfl
theorem adQ_succ (s:ByteArray) (p q:Int) (k:Nat):adQ s p q (k+1)=(adQ s p q k+adP s p (k+1)) % 65521:=rfl
theorem adP_bd (s:ByteArray) (p:Int) (h0:0≤p) (h1:p < 65521):∀ k,0≤adP s p k∧adP s p k < 65521
 | 0=>⟨h0,h1⟩
 | k+1=>by rw [adP_succ]; omega
theorem adQ_bd (s:ByteArray) (p q:Int) (h0:0≤q) (h1:q < 65521):∀ k,0≤adQ s p q k∧adQ s p q k < 65521
 | 0=>⟨h0,h1⟩
 | k+1=>by rw [adQ_succ]; omega
def adler (x:Int) (s:ByteArray):Int:=adQ s (x % 65536 % 65521) (x / 65536 % 65521) s.size * 65536+adP s (x % 65536 % 65521) s.size
theorem and_low (x:Int) (h0:0≤x) (h1:x≤4294967295):bits .and .u32 x 65535=x % 65536:=by
 rw[u32_and x 65535 h0 (by omega) (by omega) (by omega)]
 show ((x.toNat &&& 65535:Nat):Int)=_
 rw[nat_mask16]
 omega
theorem or_word (p q:Int) (h0:0≤p) (h1:p < 65521) (h2:0≤q) (h3:q < 65521):bits .or .u32 (q * 65536) p=q * 65536+p:=by
 rw[u32_or _ _ (by omega) (by omega) h0 (by omega),nat_join 16 _ _ (by omega) (by omega)]
 omega
end AdlerMath
end
section
namespace BigTextMath
def q256:Nat→Int
 | 0=>1
 | n+1=>q256 n * 256
def low (n:Int):Nat→List Int
 | 0=>[]
 | k+1=>(n / q256 k % 256) :: low n k
theorem low_length (n:Int):∀ k,(low n k).length=k
 | 0=>rfl
 | k+1=>by simp [low,low_length n k]
theorem low2 (n:Int) (h0:0≤n) (h:n < 65536):low n 2=[n / 256,n % 256]:=by simp [low,q256]; omega
theorem low4 (n:Int) (h0:0≤n) (h:n < 4294967296):low n 4=[n / 16777216,n / 65536 % 256,n / 256 % 256,n % 256]:=by simp [low,q256]; omega
end BigTextMath
end
section
open Go.RowKit Go.Joins TokMath
theorem info_tok:(Tryz.prog.info? 105).map (fun i=>(i.zero,i.size,i.bytes))=some (some (.agg #[.int .i64 0,.int .i64 0,.int .i64 0]),3,24):=by kernel_rfl
def tcells:List Tok→List Value
 | []=>[]
 | c :: l=>.int .i64 c.1 :: .int .i64 c.2.1 :: .int .i64 c.2.2 :: tcells l
theorem tcells_length:∀ l:List Tok,(tcells l).length=l.length * 3
 | []=>rfl
 | c :: l=>by
  show (tcells l).length+1+1+1=(l.length+1) * 3
  rw[tcells_length l]
  omega
theorem tcells_app:∀ xs ys:List Tok,tcells (xs ++ ys)=tcells xs ++ tcells ys
 | [],ys=>rfl
 | c :: l,ys=>by
  show Value.int .i64 c.1 :: .int .i64 c.2.1 :: .int .i64 c.2.2 :: tcells (l ++ ys)=Value.int .i64 c.1 :: .int .i64 c.2.1 :: .int .i64 c.2.2 :: (tcells l ++ tcells ys)
  rw[tcells_app l ys]
theorem tcells_get:∀ (l:List Tok) (i:Nat),i < l.length→(tcells l)[i * 3]?=some (.int .i64 (l.getD i (0,0,0)).1)∧(tcells l)[i * 3+1]?=some (.int .i64 (l.getD i (0,0,0)).2.1)∧(tcells l)[i * 3+2]?=some (.int .i64 (l.getD i (0,0,0)).2.2)
 | [],i,h=>by simp at h
 | c :: l,0,_=>⟨rfl,rfl,rfl⟩
 | c :: l,i+1,h=>by
  have q:=tcells_get l i (by simpa using h)
  rw[show (i+1) * 3=i * 3+1+1+1 by omega]
  exact q
theorem tcells_one:∀ (l:List Tok),∀ u∈tcells l,u.oneCell'=true
 | [],u,h=>by cases h
 | c :: l,u,h=>by
  rcases List.mem_cons.mp h with rfl | h
  ·rfl
  ·rcases List.mem_cons.mp h with rfl | h
   ·rfl
   ·rcases List.mem_cons.mp h with rfl | h
    ·rfl
    ·exact tcells_one l u h
def TCame (w:World) (a:Option Addr) (n:Nat) (F:Nat→Tok):Prop:=
 n=0∨∃ g off,a=some ⟨g,off,none⟩∧g < w.heap.size∧∀ j,j < n→w.cell? ⟨g,off+j * 3,none⟩=some (.int .i64 (F j).1)∧w.cell? ⟨g,off+j * 3+1,none⟩=some (.int .i64 (F j).2.1)∧w.cell? ⟨g,off+j * 3+2,none⟩=some (.int .i64 (F j).2.2)
theorem TCame.called {w w':World} {a:Option Addr} {n:Nat} {F:Nat→Tok} (h:TCame w a n F) (hb:Below w.heap.size w w'):TCame w' a n F:=by
 rcases h with h | ⟨g,off,ha,hg,hc⟩
 ·exact .inl h
 ·exact .inr ⟨g,off,ha,Nat.lt_of_lt_of_le hg hb.size,fun j hj=>⟨(hb.cell (p:=⟨g,off+j * 3,none⟩) hg).trans (hc j hj).1,(hb.cell (p:=⟨g,off+j * 3+1,none⟩) hg).trans (hc j hj).2.1,(hb.cell (p:=⟨g,off+j * 3+2,none⟩) hg).trans (hc j hj).2.2⟩⟩
theorem TCame.part {w:World} {g off n m k:Nat} {F:Nat→Tok} (h:TCame w (some ⟨g,off,none⟩) n F) (hk:k+m≤n):TCame w (some ⟨g,off+k * 3,none⟩) m (fun j=>F (k+j)):=by
 rcases Nat.eq_zero_or_pos m with h0 | h0
 ·exact .inl h0
 ·rcases h with h | ⟨g',off',ha,hg,hc⟩
  ·omega
  ·cases ha
   refine .inr ⟨g,off+k * 3,rfl,hg,fun j hj=>?_⟩
   have q:=hc (k+j) (by omega)
   rw[show off+k * 3+j * 3=off+(k+j) * 3 by omega]
   exact q
theorem TCame.shorter {w:World} {a:Option Addr} {n m:Nat} {F:Nat→Tok} (h:TCame w a n F) (hm:m≤n):TCame w a m F:=by
 rcases h with h | ⟨g,off,ha,hg,hc⟩
 ·exact .inl (by omega)
 ·exact .inr ⟨g,off,ha,hg,fun j hj=>hc j (by omega)⟩
theorem TCame.congr {w:World} {a:Option Addr} {n:Nat} {F G:Nat→Tok} (h:TCame w a n F) (e:∀ j,j < n→F j=G j):TCame w a n G:=by
 rcases h with h | ⟨g,off,ha,hg,hc⟩
 ·exact .inl h
 ·exact .inr ⟨g,off,ha,hg,fun j hj=>by rw [← e j hj]; exact hc j hj⟩
def TOwn (w:World) (base g n:Nat) (F:Nat→Tok):Prop:=base≤g∧∃ cur,w.heap[g]?=some (.cells cur 105 (0,0))∧n * 3≤cur.size∧∀ j,j < n→cur[j * 3]?=some (.int .i64 (F j).1)∧cur[j * 3+1]?=some (.int .i64 (F j).2.1)∧cur[j * 3+2]?=some (.int .i64 (F j).2.2)
theorem TOwn.lt {w:World} {base g n:Nat} {F:Nat→Tok} (h:TOwn w base g n F):g < w.heap.size:=by
 obtain⟨_,cur,h2,_⟩:=h
 exact block_lt h2
theorem TOwn.keep {w w':World} {base g n:Nat} {F:Nat→Tok} (h:TOwn w base g n F) (hk:w'.heap[g]?=w.heap[g]?):TOwn w' base g n F:=by
 obtain⟨h1,cur,h2,h3⟩:=h
 exact⟨h1,cur,hk.trans h2,h3⟩
theorem TOwn.called {w w':World} {base g n:Nat} {F:Nat→Tok} (h:TOwn w base g n F) (hb:Below w.heap.size w w'):TOwn w' base g n F:=h.keep (hb.block g h.lt)
theorem TOwn.came {w:World} {base g n:Nat} {F:Nat→Tok} (h:TOwn w base g n F):TCame w (some ⟨g,0,none⟩) n F:=by
 refine .inr ⟨g,0,rfl,h.lt,fun j hj=>?_⟩
 obtain⟨_,cur,h2,h3,h4⟩:=h
 rw[Nat.zero_add,cell_of_block h2,cell_of_block h2,cell_of_block h2]
 exact h4 j hj
theorem tcame_of_own {w:World} {S n:Nat} {v:Value} {L:List Tok} (h:w.ownsRow S 105 3 v n (tcells L)) (hn:n=L.length):∃ a c,v=.slice a L.length c∧L.length≤c∧c≤maxLen∧(a=none→c=0)∧TCame w a L.length (fun j=>L.getD j (0,0,0))∧(∀ ad,a=some ad→∃ g,ad=⟨g,0,none⟩∧S≤g):=by
 subst hn
 rcases h.2 with ⟨rfl,h0⟩ | ⟨g,cap,cur,rfl,hb,hg,hc,hm,hs,ht⟩
 ·exact⟨none,0,by rw [h0],by omega,Nat.zero_le _,fun _=>rfl,.inl h0,fun ad e=>by cases e⟩
 ·refine⟨_,cap,rfl,hc,hm,(fun e=>by cases e),.inr ⟨g,0,rfl,block_lt hg,fun j hj=>?_⟩,fun ad e=>by cases e; exact⟨g,rfl,hb⟩⟩
  have q:=tcells_get L j hj
  rw[Nat.zero_add,h.cellAt (j * 3) (by omega),h.cellAt (j * 3+1) (by omega),h.cellAt (j * 3+2) (by omega)]
  exact q
theorem tok_called {w w':World} {S n:Nat} {v:Value} {L:List Tok} (h:w.ownsRow S 105 3 v n (tcells L)) (hb:Below w.heap.size w w'):w'.ownsRow S 105 3 v n (tcells L):=by
 refine⟨h.1,?_⟩
 rcases h.2 with h | ⟨g,cap,cur,rfl,h1,h2,h3⟩
 ·exact .inl h
 ·exact .inr ⟨g,cap,cur,rfl,h1,(hb.block g (block_lt h2)).trans h2,h3⟩
theorem toks_append {w:World} {S:Nat} {v:Value} {xs ys:List Tok} {ops:Array Oper} {rest:List Oper} {o:Oper} {a:Act} {Q:Exit→Act→World→Prop} (hgd:o.guard=none) (s x:Operand)
  (ho:o.op=.call { callee:=.builtin .append,args:=#[s,x],argTypes:=#[72,72] }) (hs:a.eval s=v) (h:w.ownsRow S 105 3 v xs.length (tcells xs)) (ad:Addr) (m c:Nat) (hx:a.eval x=.slice (some ad) m c) (hm:ys.length=m)
  (hc:∀ j u,(tcells ys)[j]?=some u→w.cell? (ad.add j)=some u)
  (h63:xs.length+ys.length≤100000) (hS:S≤w.heap.size)
  (hK:∀ v' w',w'.ownsRow S 105 3 v' (xs ++ ys).length (tcells (xs ++ ys))→w.grownBy w' v.ownBlock→wpList Tryz.prog ops Q rest (a.put o.dst v') w'):wpList Tryz.prog ops Q (o :: rest) a w:=by
 obtain⟨i0,hi0,hz0,hz1,hz2⟩:=info_parts info_tok
 refine wpList_append_own_at w hgd s x _ ho S 105 i0 _ 3 24 Tryz.underlying72 hi0 hz0 hz1 hz2 rfl (by omega) v _ _ hs h ad m c (tcells ys) hx (by rw [tcells_length,hm]) hc (tcells_one ys) (by unfold maxLen; omega) (by omega) hS ?_
 intro v' w' hown hg _ _
 refine hK v' w' ?_ hg
 rw[List.length_append,tcells_app,hm]
 exact hown
end
section
namespace OutMath
def p2 (n:Nat):Int:=2 ^ n
theorem p2_zero:p2 0=1:=by simp [p2]
theorem p2_succ (n:Nat):p2 (n+1)=2 * p2 n:=by unfold p2; rw [Int.pow_succ]; omega
theorem p2_pos:∀ n,1≤p2 n
 | 0=>by simp [p2]
 | n+1=>by have:=p2_pos n; rw [p2_succ]; omega
theorem p2_mono (n:Nat):∀ m,p2 n≤p2 (n+m)
 | 0=>by simp
 | m+1=>by have:=p2_mono n m; have h:=p2_pos (n+m); rw [← Nat.add_assoc,p2_succ]; omega
theorem p2_le {n m:Nat} (h:n≤m):p2 n≤p2 m:=by
 obtain⟨k,rfl⟩:=Nat.exists_eq_add_of_le h
 exact p2_mono n k
theorem p2_nat (n:Nat):p2 n=((2 ^ n:Nat):Int):=by unfold p2; simp
def last (s:ByteArray):Nat:=(s.data[s.size - 1]?.getD 0).toNat
theorem last_at (s:ByteArray) (h:s.size - 1 < s.size):(s[s.size - 1]'h).toNat=last s:=by
 unfold last
 have h':s.size - 1 < s.data.size:=h
 rw[Array.getElem?_eq_getElem h']
 rfl
theorem last_lt (s:ByteArray):last s < 256:=UInt8.toNat_lt _
def Fits (s:ByteArray) (c:Int):Prop:=s.size≤12000∧0≤c∧c≤8 * s.size∧(c+7) / 8=s.size
def lastOk (s:ByteArray) (c:Int):Bool:=decide (((last s:Nat):Int) < p2 (c % 8).toNat)
theorem lastOk_div (s:ByteArray) (c:Int):lastOk s c=(((last s:Nat):Int) / 2 ^ (c % 8).toNat == 0):=by
 unfold lastOk
 have e:p2 (c % 8).toNat=2 ^ (c % 8).toNat:=rfl
 have hp:=p2_pos (c % 8).toNat
 rw[← e]
 generalize p2 (c % 8).toNat=q at *
 rw[Bool.eq_iff_iff]
 simp only [decide_eq_true_eq,beq_iff_eq]
 constructor
 ·intro h; exact Int.ediv_eq_zero_of_lt (by omega) h
 ·intro h
  have:=Int.lt_mul_ediv_self_add (x:=((last s:Nat):Int)) (show 0 < q by omega)
  rw[h] at this
  omega
def outB (s:ByteArray) (c:Int):Bool:=decide (s.size≤12000∧0≤c∧c≤8 * s.size∧(c+7) / 8=s.size) && (decide (c % 8=0) || lastOk s c)
theorem outB_no (s:ByteArray) (c:Int) (h:¬ Fits s c):outB s c=false:=by
 have h':¬ (s.size≤12000∧0≤c∧c≤8 * s.size∧(c+7) / 8=s.size):=h
 unfold outB
 rw[decide_eq_false h']
 rfl
theorem outB_fit0 (s:ByteArray) (c:Int) (h:Fits s c) (hc:c % 8=0):outB s c=true:=by
 have h':s.size≤12000∧0≤c∧c≤8 * s.size∧(c+7) / 8=s.size:=h
 unfold outB
 rw[decide_eq_true h',decide_eq_true hc]
 rfl
theorem outB_fit1 (s:ByteArray) (c:Int) (h:Fits s c) (hc:¬ c % 8=0):outB s c=lastOk s c:=by
 have h':s.size≤12000∧0≤c∧c≤8 * s.size∧(c+7) / 8=s.size:=h
 unfold outB
 rw[decide_eq_true h',decide_eq_false hc]
 rfl
theorem fits_of_outB (s:ByteArray) (c:Int) (h:outB s c=true):Fits s c:=by
 refine Classical.byContradiction fun hn=>?_
 rw[outB_no s c hn] at h
 cases h
end OutMath
end
section
namespace PutMath
open OutMath
def pre (xs:List Int) (c:Nat):List Int:=if c % 8=0 then xs ++ [0] else xs
def bstep (xs:List Int) (c:Nat) (b:Int):List Int:=(pre xs c).set (c / 8) ((pre xs c).getD (c / 8) 0+b * p2 (c % 8))
def Inv (xs:List Int) (c:Nat):Prop:=xs.length=(c+7) / 8∧(c % 8≠0→0≤xs.getD (c / 8) 0∧xs.getD (c / 8) 0 < p2 (c % 8))
theorem pre_len {xs:List Int} {c:Nat} (h:Inv xs c):(pre xs c).length=c / 8+1:=by
 obtain⟨h1,h2⟩:=h
 unfold pre
 split
 ·rw[List.length_append,h1]; simp; omega
 ·rw[h1]; omega
theorem pre_last {xs:List Int} {c:Nat} (h:Inv xs c):0≤(pre xs c).getD (c / 8) 0∧(pre xs c).getD (c / 8) 0 < p2 (c % 8):=by
 obtain⟨h1,h2⟩:=h
 unfold pre
 split
 ·rename_i h0
  have e:xs.length=c / 8:=by omega
  rw[h0,p2_zero,List.getD_eq_getElem?_getD,List.getElem?_append_right (by omega),e]
  simp
 ·rename_i h0
  exact h2 h0
theorem mul01 (b q:Int) (h0:0≤b) (h1:b≤1) (hq:1≤q):0≤b * q∧b * q≤q:=by
 have:b=0∨b=1:=by omega
 rcases this with rfl | rfl <;> omega
theorem bstep_len {xs:List Int} {c:Nat} (b:Int) (h:Inv xs c):(bstep xs c b).length=c / 8+1:=by
 unfold bstep
 rw[List.length_set,pre_len h]
theorem inv_step {xs:List Int} {c:Nat} {b:Int} (h:Inv xs c) (h0:0≤b) (h1:b≤1):Inv (bstep xs c b) (c+1):=by
 have hl:=pre_len h
 have hp:=pre_last h
 refine⟨by rw [bstep_len b h]; omega,fun hc=>?_⟩
 have e1:(c+1) / 8=c / 8:=by omega
 have e2:(c+1) % 8=c % 8+1:=by omega
 have hm:=mul01 b (p2 (c % 8)) h0 h1 (p2_pos _)
 rw[e1,e2,p2_succ]
 unfold bstep
 have e3:((pre xs c).set (c / 8) ((pre xs c).getD (c / 8) 0+b * p2 (c % 8))).getD (c / 8) 0=(pre xs c).getD (c / 8) 0+b * p2 (c % 8):=by
  rw[List.getD_eq_getElem?_getD,List.getElem?_set_self (by omega)]
  rfl
 rw[e3]
 omega
def puts (xs:List Int) (c:Nat) (f:Nat→Int):Nat→List Int
 | 0=>xs
 | k+1=>bstep (puts xs c f k) (c+k) (f k)
theorem inv_puts {xs:List Int} {c:Nat} {f:Nat→Int} (h:Inv xs c) (hf:∀ k,0≤f k∧f k≤1):∀ k,Inv (puts xs c f k) (c+k)
 | 0=>h
 | k+1=>inv_step (inv_puts h hf k) (hf k).1 (hf k).2
theorem p2_8 {r:Nat} (h:r < 8):p2 r≤128:=by
 have h1:=p2_le (show r≤7 by omega)
 have h2:p2 7=128:=by decide +kernel
 omega
def bitOf (x:Int) (k:Nat):Int:=x / p2 k % 2
theorem bitOf_01 (x:Int) (k:Nat):0≤bitOf x k∧bitOf x k≤1:=by unfold bitOf; omega
theorem or_put (y b:Int) (r:Nat) (hr:r < 8) (h0:0≤y) (h1:y < p2 r) (b0:0≤b) (b1:b≤1):bits .or .u8 y (Go.RowKit.wrap64 (b * 2 ^ r) % 256)=y+b * p2 r:=by
 have hm:=mul01 b (p2 r) b0 b1 (p2_pos r)
 have hp:=p2_8 hr
 have e:Go.RowKit.wrap64 (b * 2 ^ r) % 256=b * p2 r:=by
  show Go.RowKit.wrap64 (b * p2 r) % 256=_
  unfold Go.RowKit.wrap64; omega
 rw[e]
 obtain⟨n,rfl⟩:=Int.eq_ofNat_of_zero_le h0
 obtain⟨m,rfl⟩:=Int.eq_ofNat_of_zero_le b0
 rw[p2_nat] at h1 hm hp ⊢
 rw[show ((m:Int) * ((2 ^ r:Nat):Int))=((m * 2 ^ r:Nat):Int) from (Int.natCast_mul _ _).symm] at hm ⊢
 rw[u8_or_nat _ _ (by omega) (by omega),Nat.or_comm,nat_join r (m * 2 ^ r) n (by simp) (by omega)]
 omega
theorem i64_and_nat (a b:Nat) (ha:a < 9223372036854775808) (hb:b < 9223372036854775808):bits .and .i64 (a:Int) (b:Int)=((a &&& b:Nat):Int):=by
 have h1:(BitVec.ofInt 64 (a:Int)).toNat=a:=by
  rw[BitVec.ofInt_natCast,BitVec.toNat_ofNat]; exact Nat.mod_eq_of_lt (by omega)
 have h2:(BitVec.ofInt 64 (b:Int)).toNat=b:=by
  rw[BitVec.ofInt_natCast,BitVec.toNat_ofNat]; exact Nat.mod_eq_of_lt (by omega)
 have hx:a &&& b < 2 ^ 63:=Nat.and_lt_two_pow _ (by omega)
 show IntKind.i64.wrap ((BitVec.ofInt 64 (a:Int) &&& BitVec.ofInt 64 (b:Int)).toNat:Int)=_
 rw[BitVec.toNat_and,h1,h2,IntKind.wrap_i64]
 omega
theorem bit_shr (x:Int) (k:Nat) (h0:0≤x) (h1:x≤16777216) (_hk:k≤24):bits .and .i64 (x / 2 ^ k) 1=bitOf x k:=by
 have a:=Int.ediv_nonneg h0 (show 0≤p2 k by have:=p2_pos k; omega)
 have b:=Int.ediv_le_self (p2 k) h0
 show bits .and .i64 (x / p2 k) 1=x / p2 k % 2
 generalize x / p2 k=y at *
 obtain⟨n,rfl⟩:=Int.eq_ofNat_of_zero_le a
 have:=i64_and_nat n 1 (by omega) (by omega)
 rw[nat_mask1] at this
 rw[show ((1:Nat):Int)=1 from rfl] at this
 rw[this]
 omega
end PutMath
end
section
open OutMath PutMath
def May (s:ByteArray) (c x n:Int):Prop:=outB s c=true∧0≤n∧n≤24∧0≤x∧x < p2 n.toNat∧c+n≤96000
theorem bytes_inv (s:ByteArray) (c:Nat) (h:outB s c=true):Inv (s.data.toList.map fun b=>(b.toNat:Int)) c:=by
 have hf:=fits_of_outB s c h
 obtain⟨q1,q2,q3,q4⟩:=hf
 refine⟨by simp; omega,fun h8=>?_⟩
 have hc:¬ (c:Int) % 8=0:=by omega
 rw[outB_fit1 s c (fits_of_outB s c h) hc] at h
 unfold lastOk at h
 have h':=of_decide_eq_true h
 rw[show ((c:Int) % 8).toNat=c % 8 by omega] at h'
 have hl:c / 8=s.size - 1:=by omega
 have e:(s.data.toList.map fun b=>(b.toNat:Int)).getD (c / 8) 0=(last s:Int):=by
  rw[hl]
  unfold last
  have hlt:s.size - 1 < s.data.size:=by have:s.data.size=s.size:=rfl; omega
  rw[List.getD_eq_getElem?_getD,List.getElem?_map,Array.getElem?_toList,Array.getElem?_eq_getElem hlt]
  rfl
 rw[e]
 exact⟨by omega,h'⟩
end
end Go.Proofs.YtklpiihnbokkkaaGreatDoor
