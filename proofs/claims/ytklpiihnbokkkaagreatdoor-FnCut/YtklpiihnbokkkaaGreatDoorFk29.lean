/-
  Texts of the proof, put together.
-/
import Derived.Test.YtklpiihnbokkkaaGreatDoorFk28
import Derived.Deep.DrawnRows
namespace Go.Proofs.YtklpiihnbokkkaaGreatDoor
section
open Go.RowKit Go.Joins OutMath PutMath
def Wr (w:World) (base b g L cap:Nat) (xs:List Int) (c:Int):Prop:=
 w.heap[b]?=some (.cells #[.slice (some ⟨g,0,none⟩) L cap,.int .i64 c] 173 (0,0))∧Own 5 w base g (.slice (some ⟨g,0,none⟩) L cap) (u8s xs)∧b≠g∧base≤b
section
variable {w:World} {base b g L cap:Nat} {xs:List Int} {c:Int}
theorem Wr.c0 (h:Wr w base b g L cap xs c):w.cell? ⟨b,0,none⟩=some (.slice (some ⟨g,0,none⟩) L cap):=cell_of_block h.1 0
theorem Wr.c1 (h:Wr w base b g L cap xs c):w.cell? ⟨b,1,none⟩=some (.int .i64 c):=cell_of_block h.1 1
theorem Wr.f (h:Wr w base b g L cap xs c) (i:Nat):w.frozen? ⟨b,i,none⟩=false:=unfrozen_of_block h.1 i
theorem Wr.len (h:Wr w base b g L cap xs c):L=xs.length:=by
 obtain⟨cp,hv⟩:=h.2.1.form
 simp[u8s] at hv
 exact hv.1
theorem Wr.lt (h:Wr w base b g L cap xs c):b < w.heap.size:=by
 rcases Nat.lt_or_ge b w.heap.size with k | k
 ·exact k
 ·have:=h.1; rw [Array.getElem?_eq_none k] at this; cases this
end
theorem bytes_u8s (s:ByteArray):u8s (s.data.toList.map fun b=>(b.toNat:Int))=s.data.toList.map fun b=>.int .u8 b.toNat:=by simp [u8s]
set_option maxHeartbeats 400000 in
theorem newWriter (s:ByteArray) (c:Int) (w:World) (hs:s.size≤12000):
  Calls Tryz.prog 118 #[.agg #[.string s,.int .i64 c]] w fun e w'=>∃ b g cap,e=.returned (.pointer (some ⟨b,0,none⟩))∧Wr w' w.heap.size b g s.size cap (s.data.toList.map fun b=>(b.toNat:Int)) c∧Below w.heap.size w w':=by
 have hcv:=fun w'=>run_bytes_of_string (P:=Tryz.prog) w' 9 22 5 s Tryz.underlying9 Tryz.underlying22 Tryz.underlying5
 go_enter Tryz.func118,Tryz.ntmps118
 go_wp2
 go_ret
 have hO:=own_of_bytes (base:=w.heap.size) (w.alloc (.cells #[.string s,.int .i64 c] 43)) 5 s (by unfold maxLen; omega) (by simp)
 refine⟨w.heap.size+1+1,w.heap.size+1,grownCap (w.alloc (.cells #[.string s,.int .i64 c] 43)) s.size 0 5,rfl,⟨?_,?_,by omega,by omega⟩,?_⟩
 ·show (((w.heap.push _).push _).push _)[w.heap.size+1+1]?=_
  rw[Array.getElem?_push,if_pos (by simp)]
 ·rw[bytes_u8s]
  have hO2:=hO.alloc (.cells #[.slice (some ⟨w.heap.size+1,0,none⟩) s.size (grownCap (w.alloc (.cells #[.string s,.int .i64 c] 43)) s.size 0 5),.int .i64 c] 173)
  rw[show (w.alloc (.cells #[.string s,.int .i64 c] 43)).heap.size=w.heap.size+1 by simp] at hO2
  exact hO2.keep rfl
 ·exact (bal (bal (bstart _ _) _) _).drew
theorem putWorld {w:World} {base b g m cap:Nat} {v:Value} {xs:List Int} {c:Nat} {y bit:Int}
  (hb:w.heap[b]?=some (.cells #[.slice (some ⟨g,0,none⟩) (m+1) cap,.int .i64 c] 173 (0,0))) (hO:Own 5 w base g (.slice (some ⟨g,0,none⟩) (m+1) cap) (u8s (pre xs c))) (hne:b≠g) (hbase:base≤b) (hI:Inv xs c) (hm:c / 8=m) (hy:y=(pre xs c).getD m 0) (hv:v=.int .u8 (y+bit * p2 (c % 8))):
  Wr ((w.setCell ⟨g,m,none⟩ v).setCell ⟨b,1,none⟩ (.int .i64 ((c:Int)+1))).drew base b g (m+1) cap (bstep xs c bit) ((c:Int)+1):=by
 subst hv
 have h1:=own_bstep (b:=bit) hO hI hm hy
 have hb1:(w.setCell ⟨g,m,none⟩ (.int .u8 (y+bit * p2 (c % 8)))).heap[b]?=some (.cells #[.slice (some ⟨g,0,none⟩) (m+1) cap,.int .i64 c] 173 (0,0)):=by
  rw[Below.heap_setCell w _ _ b (by simpa using hne)]; exact hb
 refine⟨?_,?_,hne,hbase⟩
 ·have:=block_setCell (i:=1) hb1 (.int .i64 ((c:Int)+1))
  simp at this
  exact this
 ·refine h1.keep ?_
  exact Below.heap_setCell (w.setCell ⟨g,m,none⟩ (.int .u8 (y+bit * p2 (c % 8)))) ⟨b,1,none⟩ _ g (by simpa using Ne.symm hne)
set_option maxHeartbeats 800000 in
theorem putBit_some (bit:Int) (b g m cap:Nat) (xs:List Int) (c:Nat) (base:Nat) (w:World) (hW:Wr w base b g (m+1) cap xs c) (hI:Inv xs c) (hm1:8 * m≤c) (hm2:c < 8 * m+8) (h8:¬ c % 8=0) (hc:c < 96000) (h0:0≤bit) (h1:bit≤1):
  Calls Tryz.prog 189 #[.pointer (some ⟨b,0,none⟩),.int .i64 bit] w fun e w'=>e=.returned (.tuple #[])∧Wr w' base b g (m+1) cap (bstep xs c bit) ((c:Int)+1)∧Below base w w':=by
 have c0:=hW.c0
 have c1:=hW.c1
 have fb:=hW.f
 have ht:(c:Int).tmod 8=(c:Int) % 8:=Int.tmod_eq_emod_of_nonneg (by omega)
 have hd:(c:Int).tdiv 8=m:=by rw [Int.tdiv_eq_ediv_of_nonneg (by omega)]; omega
 have hd':(c:Int) / 8=m:=by omega
 have d8:((c:Int) % 8 == 0)=false:=by simp; omega
 have hpr:pre xs c=xs:=by unfold pre; rw [if_neg h8]
 have em:c / 8=m:=by omega
 have hl:xs.length=m+1:=hW.len.symm
 have hcy:=own_u8 hW.2.1 m (by omega)
 obtain⟨y,hy⟩:∃ y,y=xs.getD m 0:=⟨_,rfl⟩
 rw[← hy] at hcy
 obtain⟨cy,fy⟩:=hcy
 have hyb:=pre_last hI
 rw[hpr,em,← hy] at hyb
 have HV:Hid (bits .or .u8 y (wrap64 (bit * 2 ^ (c % 8)) % 256)=y+bit * p2 (c % 8)):=or_put y bit (c % 8) (by omega) hyb.1 hyb.2 h0 h1
 have HW:Hid (Wr w base b g (m+1) cap xs c):=hW
 have HI:Hid (Inv xs c):=hI
 have HP:Hid (pre xs c=xs):=hpr
 have HE:Hid (c / 8=m):=em
 have HY:Hid (y=xs.getD m 0):=hy
 have e2:IntKind.i64.wrap (m:Int)=m:=by rw [IntKind.wrap_i64]; omega
 have b1:(0:Int)≤m:=by omega
 have b2:(m:Int) < (m:Int)+1:=by omega
 have hne:=hW.2.2.1
 clear hW hI hpr em hl hy h8 hyb
 go_enter Tryz.func189,Tryz.ntmps189
 go_wp2_with fail
 go_region
 go_wp2_with fail
 go_end0
 refine⟨rfl,putWorld (y:=y) (bit:=bit) HW.out.1 (by rw [HP.out]; exact HW.out.2.1) hne HW.out.2.2.2 HI.out HE.out (by rw [HP.out]; exact HY.out) (by rw [HV.out]),?_⟩
 exact (((Below.refl _ _).setCell HW.out.2.1.base_le _).setCell HW.out.2.2.2 _).drew
set_option maxHeartbeats 800000 in
theorem putBit_none (bit:Int) (b g m cap:Nat) (xs:List Int) (c:Nat) (base:Nat) (w:World) (hW:Wr w base b g m cap xs c) (hI:Inv xs c) (hm:c=8 * m) (hc:c < 96000) (h0:0≤bit) (h1:bit≤1):
  Calls Tryz.prog 189 #[.pointer (some ⟨b,0,none⟩),.int .i64 bit] w fun e w'=>∃ g' cap',e=.returned (.tuple #[])∧Wr w' base b g' (m+1) cap' (bstep xs c bit) ((c:Int)+1)∧Below base w w':=by
 have c0:=hW.c0
 have c1:=hW.c1
 have fb:=hW.f
 have hblt:=hW.lt
 have hne:=hW.2.2.1
 have hbb:=hW.2.2.2
 have hbg:=hW.2.1.base_le
 have hglt:=hW.2.1.lt
 have ht:(c:Int).tmod 8=(c:Int) % 8:=Int.tmod_eq_emod_of_nonneg (by omega)
 have hd:(c:Int).tdiv 8=m:=by rw [Int.tdiv_eq_ediv_of_nonneg (by omega)]; omega
 have hd':(c:Int) / 8=m:=by omega
 have d8:((c:Int) % 8 == 0)=true:=by simp; omega
 have HPR:Hid (u8s xs ++ [.int .u8 0]=u8s (pre xs c)):=by unfold pre; rw [if_pos (by omega)]; exact u8s_snoc xs 0
 have HE:Hid (c / 8=m):=by show c / 8=m; omega
 have HI:Hid (Inv xs c):=hI
 have hl63:(u8s xs).length+1≤maxLen∧((u8s xs).length+1) * 1≤140737488355328:=by rw [u8s_length,hI.1]; unfold maxLen; omega
 have hyb:=pre_last hI
 rw[HE.out] at hyb
 obtain⟨y,hy⟩:∃ y,y=(pre xs c).getD m 0:=⟨_,rfl⟩
 rw[← hy] at hyb
 have HV:Hid (bits .or .u8 y (wrap64 (bit * 2 ^ (c % 8)) % 256)=y+bit * p2 (c % 8)):=or_put y bit (c % 8) (by omega) hyb.1 hyb.2 h0 h1
 have HY:Hid (y=(pre xs c).getD m 0):=hy
 have HW:Hid (Wr w base b g m cap xs c):=hW
 have e2:IntKind.i64.wrap (m:Int)=m:=by rw [IntKind.wrap_i64]; omega
 have b1:(0:Int)≤m:=by omega
 have b2:(m:Int) < (m:Int)+1:=by omega
 have hm1:8 * m≤c:=by omega
 have hm2:c < 8 * m+8:=by omega
 clear hW hI hy hyb hm
 obtain⟨i0,hi0,hz0,hz1,hz2⟩:=info_parts info_u8
 go_enter Tryz.func189,Tryz.ntmps189
 go_wp2_with (at_builtin; refine wpList_append1 rfl _ _ 22 rfl i0 (.int .u8 0) 1 Tryz.underlying22 hi0 hz0 hz1 hz2 rfl rfl (HW.out.2.1.alloc _) ⟨w.heap.size,0,none⟩ 1 (.int .u8 0) rfl ?c1 rfl rfl hl63.1 hl63.2 ?_)
 case c1=>simp
 ·intro g1 v1 w1 hO1 hg1 hgr
  have hO2:Own 5 w1 base g1 v1 (u8s (pre xs c)):=by rw [← HPR.out]; exact hO1
  have hB1:Below base w w1:=((Below.refl _ _).alloc (by omega) _).grown hgr (by simp; omega) (fun k hk=>by cases hk; exact hbg)
  obtain⟨cap1,hv1⟩:=hO2.form
  have hpl1:(u8s (pre xs c)).length=m+1:=by rw [u8s_length,pre_len HI.out,HE.out]
  rw[hpl1] at hv1
  rw[hv1]
  rw[hv1] at hO2
  have hne1:b≠g1:=by
   rcases hg1 with rfl | hg1
   ·exact hne
   ·omega
  have hblk:w1.heap[b]?=some (.cells #[.slice (some ⟨g,0,none⟩) m cap,.int .i64 c] 173 (0,0)):=by
   rw[hgr.block b (by simp; omega) (by simpa using hne),Below.heap_alloc w _ b hblt]
   exact HW.out.1
  have hblk2:=block_setCell (i:=0) hblk (.slice (some ⟨g1,0,none⟩) (m+1) cap1)
  have hO3:Own 5 (w1.setCell ⟨b,0,none⟩ (.slice (some ⟨g1,0,none⟩) (m+1) cap1)) base g1 (.slice (some ⟨g1,0,none⟩) (m+1) cap1) (u8s (pre xs c)):=hO2.keep (Below.heap_setCell w1 ⟨b,0,none⟩ _ g1 (by simpa using Ne.symm hne1))
  have q0:w1.cell? ⟨b,0,none⟩=some (.slice (some ⟨g,0,none⟩) m cap):=cell_of_block hblk 0
  have q1:w1.cell? ⟨b,1,none⟩=some (.int .i64 c):=cell_of_block hblk 1
  have qf:∀ i,w1.frozen? ⟨b,i,none⟩=false:=unfrozen_of_block hblk
  have hcy:=own_u8 hO2 m (by have:=pre_len HI.out; rw [HE.out] at this; omega)
  rw[← HY.out] at hcy
  obtain⟨cy,fy⟩:=hcy
  have HB:Hid ((w1.setCell ⟨b,0,none⟩ (.slice (some ⟨g1,0,none⟩) (m+1) cap1)).heap[b]?=some (.cells #[.slice (some ⟨g1,0,none⟩) (m+1) cap1,.int .i64 c] 173 (0,0))):=by
   have hh:=hblk2
   simp at hh
   exact hh
  have HO3:Hid (Own 5 (w1.setCell ⟨b,0,none⟩ (.slice (some ⟨g1,0,none⟩) (m+1) cap1)) base g1 (.slice (some ⟨g1,0,none⟩) (m+1) cap1) (u8s (pre xs c))):=hO3
  have hbl1:=hO1.base_le
  clear hO1 hg1 hgr hpl1 hv1 hO2 hO3 hblk hblk2 hl63 hi0 hz0 hz1 hz2 c0 c1 fb
  go_wp2_with fail
  go_region
  go_wp2_with fail
  go_end0
  refine⟨g1,cap1,rfl,putWorld (y:=y) (bit:=bit) HB.out HO3.out hne1 hbb HI.out HE.out HY.out (by rw [HV.out]),?_⟩
  exact ((((hB1.setCell hbb _)).setCell hbl1 _).setCell hbb _).drew
theorem putBit_any (bit:Int) (b g L cap:Nat) (xs:List Int) (c:Nat) (base:Nat) (w:World) (hW:Wr w base b g L cap xs c) (hI:Inv xs c) (hc:c < 96000) (h0:0≤bit) (h1:bit≤1):
  Calls Tryz.prog 189 #[.pointer (some ⟨b,0,none⟩),.int .i64 bit] w fun e w'=>∃ g' L' cap',e=.returned (.tuple #[])∧Wr w' base b g' L' cap' (bstep xs c bit) ((c:Int)+1)∧Below base w w':=by
 have hl:=hW.len
 have hi:=hI.1
 by_cases h8:c % 8=0
 ·obtain rfl:L=c / 8:=by omega
  refine (putBit_none bit b g (c / 8) cap xs c base w hW hI (by omega) hc h0 h1).mono ?_
  rintro e w1 ⟨g',cap',h⟩
  exact⟨g',_,cap',h⟩
 ·obtain rfl:L=c / 8+1:=by omega
  refine (putBit_some bit b g (c / 8) cap xs c base w hW hI (by omega) (by omega) h8 hc h0 h1).mono ?_
  rintro e w1 h
  exact⟨g,_,cap,h⟩
set_option maxHeartbeats 400000 in
theorem writerOut (b g L cap:Nat) (xs:List Int) (c:Int) (base:Nat) (w:World) (hW:Wr w base b g L cap xs c):
  Calls Tryz.prog 120 #[.pointer (some ⟨b,0,none⟩)] w fun e w'=>e=.returned (.agg #[.string (strOfNums xs),.int .i64 c])∧Below w.heap.size w w':=by
 have c0:=hW.c0
 have c1:=hW.c1
 have hblt:=hW.lt
 have hO:=hW.2.1
 have kc:=fun (o:Obj)=>own_string (P:=Tryz.prog) xs 22 9 Tryz.underlying22 Tryz.underlying5 Tryz.underlying9 (hO.alloc o)
 have kd:=fun (o:Obj)=>own_string (P:=Tryz.prog) xs 22 9 Tryz.underlying22 Tryz.underlying5 Tryz.underlying9 ((hO.alloc o).keep (w':=(w.alloc o).drew) rfl)
 clear hW hO
 go_enter Tryz.func120,Tryz.ntmps120
 go_wp2
 go_region
 all_goals
  go_wp2
  exact bodyPost_ret (v:=.agg #[.string (strOfNums xs),.int .i64 c]) (by simp [results,Tryz.results120,go_sem]) rfl ⟨rfl,(bstart _ _).drew⟩
end
section
open Go.RowKit Go.Joins OutMath PutMath
set_option maxHeartbeats 800000 in
theorem putCode_any (x:Int) (n:Nat) (b g0 L0 cap0:Nat) (xs:List Int) (c:Nat) (base:Nat) (w:World) (hW:Wr w base b g0 L0 cap0 xs c) (hI:Inv xs c) (h4:0≤x) (hx:x≤16777216) (hn:n≤24) (hc:c+n≤96000):
  Calls Tryz.prog 159 #[.pointer (some ⟨b,0,none⟩),.int .i64 x,.int .i64 n] w fun e w'=>∃ g' L' cap',e=.returned (.tuple #[])∧Wr w' base b g' L' cap' (puts xs c (fun j=>bitOf x (n - 1 - j)) n) ((c+n:Nat):Int)∧Below base w w':=by
 have HW:Hid (Wr w base b g0 L0 cap0 xs c):=hW
 have HI:Hid (Inv xs c):=hI
 clear hW hI
 go_enter Tryz.func159,Tryz.ntmps159
 go_wp2_with fail
 go_loopw [6] (fun i w'=>∃ j g L cap:Nat,j≤n∧i=.int .i64 ((n:Int) - 1 - j)∧Hid (Wr w' base b g L cap (puts xs c (fun j=>bitOf x (n - 1 - j)) j) ((c+j:Nat):Int))∧Below base w w') (fun i _=>(intOf i+1).toNat)
 case atStart=>exact⟨0,g0,L0,cap0,Nat.zero_le _,by simp,HW,Below.refl _ _⟩
 case round=>
  obtain⟨j,g,L,cap,hj,rfl,hWr,hB⟩:=hrel
  have hIj:=inv_puts (f:=fun j=>bitOf x (n - 1 - j)) HI.out (fun k=>bitOf_01 _ _) j
  have HIj:Hid (Inv (puts xs c (fun j=>bitOf x (n - 1 - j)) j) (c+j)):=hIj
  clear hIj
  by_cases hlt:j < n
  ·have hbw:=bit_shr x (n - 1 - j) h4 hx (by omega)
   have h01:=bitOf_01 x (n - 1 - j)
   have en:((n:Int) - 1 - (j:Int)).toNat=n - 1 - j:=by omega
   go_wp2_with fail
   refine (putBit_any _ b g L cap _ (c+j) base _ hWr.out HIj.out (by omega) h01.1 h01.2).mono ?_
   rintro e w3 ⟨g',L',cap',rfl,hW3,hb3⟩
   have HW3:Hid (Wr w3 base b g' L' cap' (puts xs c (fun j=>bitOf x (n - 1 - j)) (j+1)) ((c+(j+1):Nat):Int)):=by
    have e:((c+j:Nat):Int)+1=((c+(j+1):Nat):Int):=by omega
    rw[← e]
    exact hW3
   clear hW3
   go_wp2_with fail
   go_roundw
   case rel=>exact⟨j+1,g',L',cap',by omega,by go_num,HW3,hB.trans hb3⟩
   case measure=>simp [intOf]; omega
  ·obtain rfl:n=j:=by omega
   go_wp2_with fail
   go_end0
   exact⟨g,L,cap,rfl,hWr.out,hB⟩
end
section
open Go.RowKit Go.Joins OutMath PutMath
set_option maxHeartbeats 800000 in
theorem putNumber_any (x:Int) (n:Nat) (b g0 L0 cap0:Nat) (xs:List Int) (c:Nat) (base:Nat) (w:World) (hW:Wr w base b g0 L0 cap0 xs c) (hI:Inv xs c) (h4:0≤x) (hx:x≤16777216) (hn:n≤24) (hc:c+n≤96000):
  Calls Tryz.prog 160 #[.pointer (some ⟨b,0,none⟩),.int .i64 x,.int .i64 n] w fun e w'=>∃ g' L' cap',e=.returned (.tuple #[])∧Wr w' base b g' L' cap' (puts xs c (fun j=>bitOf x j) n) ((c+n:Nat):Int)∧Below base w w':=by
 have HW:Hid (Wr w base b g0 L0 cap0 xs c):=hW
 have HI:Hid (Inv xs c):=hI
 clear hW hI
 go_enter Tryz.func160,Tryz.ntmps160
 go_wp2_with fail
 go_loopw [8] (fun i w'=>∃ j g L cap:Nat,j≤n∧i=.int .i64 (j:Int)∧Hid (Wr w' base b g L cap (puts xs c (fun j=>bitOf x j) j) ((c+j:Nat):Int))∧Below base w w') (fun i _=>((n:Int) - intOf i).toNat)
 case atStart=>exact⟨0,g0,L0,cap0,Nat.zero_le _,by simp,HW,Below.refl _ _⟩
 case round=>
  obtain⟨j,g,L,cap,hj,rfl,hWr,hB⟩:=hrel
  have hIj:=inv_puts (f:=fun j=>bitOf x j) HI.out (fun k=>bitOf_01 _ _) j
  have HIj:Hid (Inv (puts xs c (fun j=>bitOf x j) j) (c+j)):=hIj
  clear hIj
  by_cases hlt:j < n
  ·have hbw:=bit_shr x j h4 hx (by omega)
   have h01:=bitOf_01 x j
   go_wp2_with fail
   refine (putBit_any _ b g L cap _ (c+j) base _ hWr.out HIj.out (by omega) h01.1 h01.2).mono ?_
   rintro e w3 ⟨g',L',cap',rfl,hW3,hb3⟩
   have HW3:Hid (Wr w3 base b g' L' cap' (puts xs c (fun j=>bitOf x j) (j+1)) ((c+(j+1):Nat):Int)):=by
    have e:((c+j:Nat):Int)+1=((c+(j+1):Nat):Int):=by omega
    rw[← e]
    exact hW3
   clear hW3
   go_wp2_with fail
   go_roundw
   case rel=>exact⟨j+1,g',L',cap',by omega,by go_num,HW3,hB.trans hb3⟩
   case measure=>simp [intOf]; omega
  ·obtain rfl:n=j:=by omega
   go_wp2_with fail
   go_end0
   exact⟨g,L,cap,rfl,hWr.out,hB⟩
end
section
open Go.RowKit Go.Joins OutMath PutMath BlockMath PartMath
theorem lay_called2 {X w':World} {g:Nat} {o:Obj} (hB:Below X.heap.size X w') (h:X.heap[g]?=some o):w'.heap[g]?=some o:=(hB.block g (block_lt h)).trans h
theorem heap_two' (w:World) (A B:Obj):((w.alloc A).alloc B).heap[w.heap.size]?=some A:=by
 show ((w.heap.push A).push B)[w.heap.size]?=some A
 rw[Array.getElem?_push_lt (by rw [Array.size_push]; omega),Array.getElem_push_eq]
theorem heap_second' (w:World) (A B:Obj):((w.alloc A).alloc B).heap[w.heap.size+1]?=some B:=by
 show ((w.heap.push A).push B)[w.heap.size+1]?=some B
 have e:w.heap.size+1=(w.heap.push A).size:=by rw [Array.size_push]
 rw[e,Array.getElem?_push_size]
theorem head_value (k:Nat) (h:k≤2):wrap64 ((k:Int) * 2)=(k:Int) * 2∧bits .or .i64 ((k:Int) * 2) 1=(k:Int) * 2+1:=by
 obtain rfl | rfl | rfl:k=0∨k=1∨k=2:=by omega
 all_goals exact⟨by decide +kernel,by decide +kernel⟩
def headP (kind:Nat) (last:Bool):Part:=((kind:Int) * 2+(if last then 1 else 0),3,false)
theorem headP_right {kind:Nat} (h:kind≤2) (last:Bool):Right (headP kind last):=by
 unfold headP Right
 cases last <;> simp <;> omega
theorem headP_bits {kind:Nat} (h:kind≤2) (last:Bool):bitsP (headP kind last)=headBits kind last:=by
 obtain rfl | rfl | rfl:kind=0∨kind=1∨kind=2:=by omega
 all_goals cases last <;> decide +kernel
set_option maxHeartbeats 400000 in
theorem headPart_any (kind:Nat) (last:Bool) (w:World) (hk:kind≤2):
  Calls Tryz.prog 75 #[.int .i64 (kind:Int),.bool last] w fun e w'=>e=.returned (.agg #[.int .i64 (headP kind last).1,.int .i64 3,.bool false])∧Below w.heap.size w w':=by
 obtain⟨h1,h2⟩:=head_value kind hk
 cases last with
 | false=>
  go_enter Tryz.func75,Tryz.ntmps75
  go_wp2_with fail
  refine (numberPart_any _ _ _).mono ?_
  rintro e w1 ⟨rfl,hB⟩
  have h0:w1.heap[w.heap.size]?=some (.cells #[.int .i64 0,.int .i64 0,.bool false] 115 (0,0)):=(hB.block _ (by simp)).trans (heap_alloc_new w _)
  have c0:w1.cell? ⟨w.heap.size,0,none⟩=some (.int .i64 0):=(cell_of_block h0 0).trans rfl
  have c1:w1.cell? ⟨w.heap.size,1,none⟩=some (.int .i64 0):=(cell_of_block h0 1).trans rfl
  have c2:w1.cell? ⟨w.heap.size,2,none⟩=some (.bool false):=(cell_of_block h0 2).trans rfl
  have cf:∀ i,w1.frozen? ⟨w.heap.size,i,none⟩=false:=fun i=>by simp [World.frozen?,h0]
  have cl:=block_lt h0
  have HB:Hid (Below w.heap.size w w1):=bnext (bstart _ _) hB
  clear h0 hB
  go_wp2_with fail
  refine bodyPost_ret (v:=.agg #[.int .i64 (headP kind false).1,.int .i64 3,.bool false]) ?_ rfl ⟨rfl,?_⟩
  ·simp[results,Tryz.results75,go_sem,c0,c1,c2,headP]
  ·exact Below.setCell (p:=⟨_,2,none⟩) (two_below HB.out (Nat.le_refl _) _ _) (Nat.le_refl _) _
 | true=>
  go_enter Tryz.func75,Tryz.ntmps75
  go_wp2_with fail
  refine (numberPart_any _ _ _).mono ?_
  rintro e w1 ⟨rfl,hB⟩
  have h0:w1.heap[w.heap.size]?=some (.cells #[.int .i64 0,.int .i64 0,.bool false] 115 (0,0)):=(hB.block _ (by simp)).trans (heap_alloc_new w _)
  have c0:w1.cell? ⟨w.heap.size,0,none⟩=some (.int .i64 0):=(cell_of_block h0 0).trans rfl
  have c1:w1.cell? ⟨w.heap.size,1,none⟩=some (.int .i64 0):=(cell_of_block h0 1).trans rfl
  have c2:w1.cell? ⟨w.heap.size,2,none⟩=some (.bool false):=(cell_of_block h0 2).trans rfl
  have cf:∀ i,w1.frozen? ⟨w.heap.size,i,none⟩=false:=fun i=>by simp [World.frozen?,h0]
  have cl:=block_lt h0
  have HB:Hid (Below w.heap.size w w1):=bnext (bstart _ _) hB
  clear h0 hB
  go_wp2_with fail
  refine bodyPost_ret (v:=.agg #[.int .i64 (headP kind true).1,.int .i64 3,.bool false]) ?_ rfl ⟨rfl,?_⟩
  ·simp[results,Tryz.results75,go_sem,c0,c1,c2,headP]
  ·exact Below.setCell (p:=⟨_,2,none⟩) (two_below HB.out (Nat.le_refl _) _ _) (Nat.le_refl _) _
theorem wr_called {w w':World} {base b g L cap:Nat} {xs:List Int} {c:Int} (h:Wr w base b g L cap xs c) (hb:Below w.heap.size w w'):Wr w' base b g L cap xs c:=
 ⟨(hb.block _ (block_lt h.1)).trans h.1,h.2.1.keep (hb.block _ h.2.1.lt),h.2.2⟩
set_option maxHeartbeats 800000 in
theorem putPart_any (p:Part) (b g L cap:Nat) (xs:List Int) (c:Nat) (base:Nat) (w:World) (hW:Wr w base b g L cap xs c) (hI:Inv xs c) (hR:Right p) (hc:c+p.2.1≤96000) (hbw:base≤w.heap.size):
  Calls Tryz.prog 119 #[.pointer (some ⟨b,0,none⟩),.agg #[.int .i64 p.1,.int .i64 (p.2.1:Int),.bool p.2.2]] w fun e w'=>∃ g' L' cap',e=.returned (.tuple #[])∧Wr w' base b g' L' cap' (putB xs c (bitsP p)) ((c+p.2.1:Nat):Int)∧Below base w w':=by
 obtain⟨x,n,high⟩:=p
 obtain⟨hx0,hx1,hn⟩:=hR
 simp only [] at hx0 hx1 hn hc
 have HW:Hid (∀ o,Wr (w.alloc o) base b g L cap xs c):=fun o=>wr_called hW (bstart _ _)
 have HI:=hid_of hI
 clear hW hI
 cases high with
 | false=>
  have e1:puts xs c (fun j=>bitOf x j) n=putB xs c (bitsP (x,n,false)):=by
   unfold putB
   rw[bitsP_length]
   exact puts_congr n fun i hi=>(pieceBits_getD x n false hi).symm
  rw[← e1]
  have HE:=hid_of e1
  clear e1
  go_enter Tryz.func119,Tryz.ntmps119
  go_wp2_with fail
  refine (putNumber_any x n b g L cap xs c base _ (HW.out _) HI.out hx0 hx1 hn hc).mono ?_
  rintro e w1 ⟨g',L',cap',rfl,h1,h2⟩
  have HH:=hid_of (And.intro h1 h2)
  clear h1 h2
  go_wp2_with fail
  go_end0
  exact⟨g',L',cap',rfl,HH.out.1,((Below.refl _ _).alloc hbw _).trans HH.out.2⟩
 | true=>
  have e1:puts xs c (fun j=>bitOf x (n - 1 - j)) n=putB xs c (bitsP (x,n,true)):=by
   unfold putB
   rw[bitsP_length]
   exact puts_congr n fun i hi=>(pieceBits_getD x n true hi).symm
  rw[← e1]
  have HE:=hid_of e1
  clear e1
  go_enter Tryz.func119,Tryz.ntmps119
  go_wp2_with fail
  refine (putCode_any x n b g L cap xs c base _ (HW.out _) HI.out hx0 hx1 hn hc).mono ?_
  rintro e w1 ⟨g',L',cap',rfl,h1,h2⟩
  have HH:=hid_of (And.intro h1 h2)
  clear h1 h2
  go_wp2_with fail
  refine bodyPost_ret (v:=.tuple #[]) (by simp [results,Tryz.results119,go_sem]) rfl ?_
  exact⟨g',L',cap',rfl,HH.out.1,((Below.refl _ _).alloc hbw _).trans HH.out.2⟩
def WpSt (w1 wr:World) (base b:Nat) (s:ByteArray) (k:Nat) (L:List Part) (j:Nat):Prop:=∃ g L' cap,Wr wr base b g L' cap (putB (numsOf s) k (partBits (L.take j))) ((k+(partBits (L.take j)).length:Nat):Int)∧Below base w1 wr∧Inv (putB (numsOf s) k (partBits (L.take j))) (k+(partBits (L.take j)).length)∧k+(partBits (L.take j)).length≤96000
set_option maxHeartbeats 1600000 in
theorem withParts_yes (s:ByteArray) (k:Nat) (a:Option Addr) (cap:Nat) (L:List Part) (w:World) (hC:PCame w a L) (hR:∀ p∈L,Right p) (hL:L.length≤1000000) (hs:outB s k=true):
  Calls Tryz.prog 77 #[.agg #[.string s,.int .i64 (k:Int)],.slice a L.length cap] w fun e w'=>e=.returned (blkAns (bitsOut (s,k) (partBits L)))∧Below w.heap.size w w':=by
 obtain⟨q1,q2,q3,q4⟩:=fits_of_outB s k hs
 have hO:=fun w=>implOut_any s k w (by unfold maxLen; omega) (by omega) (by omega)
 rw[hs] at hO
 have HC:=hid_of hC
 have HR:=hid_of hR
 have HS:=hid_of hs
 have HI:Hid (Inv (numsOf s) k):=bytes_inv s k hs
 clear hC hR hs q4
 go_enter Tryz.func77,Tryz.ntmps77
 go_wp2_with fail
 refine (hO _).mono ?_
 rintro e w1 ⟨rfl,hB1⟩
 have r1:w1.heap[w.heap.size]?=some (.cells #[.string s,.int .i64 (k:Int)] 43 (0,0)):=lay_called2 hB1 (heap_two' w _ _)
 have r2:w1.heap[w.heap.size+1]?=some (.cells #[.string ⟨#[]⟩,.int .i64 0] 43 (0,0)):=lay_called2 hB1 (heap_second' w _ _)
 have c0:w1.cell? ⟨w.heap.size,0,none⟩=some (.string s):=(cell_of_block r1 0).trans rfl
 have c1:w1.cell? ⟨w.heap.size,1,none⟩=some (.int .i64 (k:Int)):=(cell_of_block r1 1).trans rfl
 have HB1:Hid (Below w.heap.size w w1):=bnext (bal (bstart _ _) _) hB1
 have HR2:=hid_of r2
 clear hO r1 r2 hB1
 go_wp2_with fail
 refine (newWriter s k _ q1).mono ?_
 rintro e w2 ⟨b,g0,cap0,rfl,hW2,hB2⟩
 have hsz:=hB2.size
 have HW2:Hid (WpSt w1 w2 w1.heap.size b s k L 0):=⟨g0,s.size,cap0,hW2,hB2,by simpa [partBits,putB_nil] using HI.out,by simp [partBits]; omega⟩
 clear hW2 hB2 c0 c1
 have HX:Hid (∀ W,Below w1.heap.size w1 W→Below w.heap.size w W∧PCame W a L∧W.heap[w.heap.size+1]?=some (.cells #[.string ⟨#[]⟩,.int .i64 0] 43 (0,0))):=fun W h=>⟨bnext HB1.out h,HC.out.called (bnext HB1.out h),lay_called2 h HR2.out⟩
 have hwl:w.heap.size+1 < w1.heap.size:=block_lt HR2.out
 clear HB1 HC HR2
 go_wp2_with fail
 generalize w1.heap.size=B at *
 go_loopg [17] (L.length+1) (fun gk i w'=>∃ (j:Nat),j≤L.length∧L.length - j≤gk∧i=.int .i64 j∧Hid (WpSt w1 w' B b s k L j))
 case atStart=>exact⟨0,Nat.zero_le _,by omega,rfl,HW2⟩
 case round=>
  obtain⟨j,hj,hgk,rfl,hS⟩:=hrel
  obtain⟨g,L',cp,hWr,hBw,hInv,hle⟩:=hS.out
  by_cases hlt:j < L.length
  ·have c1:=hWr.c1
   have bl:=hWr.lt
   have dl:decide ((j:Int) < (L.length:Int))=true:=decide_eq_true (by omega)
   rcases (HX.out wr hBw).2.1 with q | ⟨pg,off,rfl,hpg,hc⟩
   ·omega
   obtain⟨f0,f1,f2⟩:=hc j hlt
   have hp:Right (L.getD j (0,0,false)):=HR.out _ (by rw [List.getD_eq_getElem?_getD,List.getElem?_eq_getElem hlt]; exact List.getElem_mem hlt)
   have htk:=partBits_take hlt
   have htl:=partBits_take_le L (j+1)
   obtain⟨⟨x,n,hi⟩,hr⟩:∃ r,r=L.getD j (0,0,false):=⟨_,rfl⟩
   rw[← hr] at f0 f1 f2 hp htk
   rw[htk,List.length_append,bitsP_length] at htl
   simp only [] at f0 f1 f2 htl
   have hn:n≤24:=hp.2.2
   have HTK:=hid_of htk
   have HP:=hid_of hp
   have r2:=(HX.out wr hBw).2.2
   have z0:wr.cell? ⟨w.heap.size+1,0,none⟩=some (.string ⟨#[]⟩):=(cell_of_block r2 0).trans rfl
   have z1:wr.cell? ⟨w.heap.size+1,1,none⟩=some (.int .i64 0):=(cell_of_block r2 1).trans rfl
   have zf:∀ i,wr.frozen? ⟨w.heap.size+1,i,none⟩=false:=fun i=>by simp [World.frozen?,r2]
   have zl:=block_lt r2
   obtain⟨q,hq⟩:∃ q,q=k+(partBits (L.take j)).length:=⟨_,rfl⟩
   rw[← hq] at c1 hWr hInv hle
   obtain⟨ys,hys⟩:∃ ys,ys=putB (numsOf s) k (partBits (L.take j)):=⟨_,rfl⟩
   rw[← hys] at hWr hInv
   have HQ:=hid_of hq
   have HY:=hid_of hys
   have HTL:Hid (k+((partBits (L.take j)).length+n)≤k+(partBits L).length):=by show _≤_; omega
   have HWr:=hid_of hWr
   have HBw:=hid_of hBw
   have HInv:=hid_of hInv
   have hbs:B≤wr.heap.size:=by have:=hWr.2.2.2; omega
   clear hc hr hp htk htl hq hys hWr hBw hInv hS r2
   by_cases hroom:q+n≤96000
   ·have dr:decide ((96000:Int) < (q:Int)+(n:Int))=false:=decide_eq_false (by omega)
    go_wp2_with fail
    go_region
    all_goals
     go_wp2_with fail
     refine (putPart_any (x,n,hi) b g L' cp ys q B _ (wr_called HWr.out (bstart wr _).drew) HInv.out HP.out hroom (by show B≤(wr.alloc _).heap.size; simp; omega)).mono ?_
     rintro e w3 ⟨g',L2,cap',rfl,hW3,hB3⟩
     have HN:Hid (WpSt w1 w3 B b s k L (j+1)):=by
      have e1:putB (numsOf s) k (partBits (L.take (j+1)))=putB ys q (bitsP (x,n,hi)):=by rw [HTK.out,putB_append,← HY.out,← HQ.out]
      have e2:k+(partBits (L.take (j+1))).length=q+n:=by rw [HTK.out,List.length_append,bitsP_length,HQ.out]; simp only []; omega
      refine⟨g',L2,cap',?_,HBw.out.trans (((Below.refl _ _).alloc hbs _).drew.trans hB3),?_,?_⟩
      ·rw[e1,e2]; exact hW3
      ·rw[e1,e2]
       have:=putB_inv HInv.out (pieceBits_01 x n hi)
       rw[pieceBits_length] at this
       exact this
      ·omega
     clear hW3 hB3
     go_wp2_with fail
     go_roundg (L.length - (j+1))
     case measure=>omega
     case rel=>exact⟨j+1,by omega,Nat.le_refl _,by go_num,HN⟩
   ·have dr:decide ((96000:Int) < (q:Int)+(n:Int))=true:=decide_eq_true (by omega)
    have HN:Hid (bitsOut (s,k) (partBits L)=none):=bitsOut_none (fun h=>hroom (by have h1:=h.2; have h2:=HTL.out; have h3:=HQ.out; omega))
    have HBB:Hid (Below w.heap.size w wr):=(HX.out wr HBw.out).1
    go_wp2_with fail
    go_region
    all_goals
     go_wp2_with fail
     refine bodyPost_ret (v:=.tuple #[.agg #[.string ⟨#[]⟩,.int .i64 0],.bool false]) ?_ rfl ⟨by rw [HN.out]; rfl,?_⟩
     ·have zz:∀ (o:Obj) (i:Nat),(((wr.setCell ⟨w.heap.size+1,0,none⟩ (.string ⟨#[]⟩)).setCell ⟨w.heap.size+1,1,none⟩ (.int .i64 0)).alloc o).cell? ⟨w.heap.size+1,i,none⟩=((wr.setCell ⟨w.heap.size+1,0,none⟩ (.string ⟨#[]⟩)).setCell ⟨w.heap.size+1,1,none⟩ (.int .i64 0)).cell? ⟨w.heap.size+1,i,none⟩:=fun o i=>grow_cell o (by simpa using zl) i
      simp[results,Tryz.results77,go_sem,zz,z0,z1]
     ·exact (bal (two_below HBB.out (Nat.le_succ _) _ _) _).drew
  ·obtain rfl:L.length=j:=by omega
   have dl:decide ((L.length:Int) < (L.length:Int))=false:=decide_eq_false (by omega)
   rw[List.take_length] at hWr hle
   have HA:Hid (bitsOut (s,k) (partBits L)=some (strOfNums (putB (numsOf s) k (partBits L)),k+(partBits L).length)):=bitsOut_some HS.out hle
   obtain⟨q,hq⟩:∃ q,q=k+(partBits L).length:=⟨_,rfl⟩
   obtain⟨ys,hys⟩:∃ ys,ys=putB (numsOf s) k (partBits L):=⟨_,rfl⟩
   rw[← hq,← hys] at HA hWr
   have HWr:=hid_of hWr
   have HBw:=hid_of hBw
   clear hq hys hWr hle hInv hS hBw
   go_wp2_with fail
   refine (writerOut b g L' cp ys _ B _ HWr.out).mono ?_
   rintro e w3 ⟨rfl,hB3⟩
   have r2:=lay_called2 hB3 (HX.out wr HBw.out).2.2
   have HBB:Hid (Below w.heap.size w w3):=bnext (HX.out wr HBw.out).1 hB3
   have z0:w3.cell? ⟨w.heap.size+1,0,none⟩=some (.string ⟨#[]⟩):=(cell_of_block r2 0).trans rfl
   have z1:w3.cell? ⟨w.heap.size+1,1,none⟩=some (.int .i64 0):=(cell_of_block r2 1).trans rfl
   have zf:∀ i,w3.frozen? ⟨w.heap.size+1,i,none⟩=false:=fun i=>by simp [World.frozen?,r2]
   have zl:=block_lt r2
   clear r2 hB3
   go_wp2_with fail
   refine bodyPost_ret (v:=.tuple #[.agg #[.string (strOfNums ys),.int .i64 (q:Int)],.bool true]) ?_ rfl ⟨by rw [HA.out]; rfl,?_⟩
   ·simp[results,Tryz.results77,go_sem,z0,z1]
   ·exact two_below HBB.out (Nat.le_succ _) _ _
set_option maxHeartbeats 400000 in
theorem withParts_no (s:ByteArray) (c:Int) (a:Option Addr) (cap n:Nat) (w:World) (hs:s.size≤maxLen) (hc1:-9223372036854775808≤c) (hc2:c≤9223372036854775807) (h:outB s c=false):
  Calls Tryz.prog 77 #[.agg #[.string s,.int .i64 c],.slice a n cap] w fun e w'=>e=.returned (blkAns none)∧Below w.heap.size w w':=by
 have hO:=fun w=>implOut_any s c w hs hc1 hc2
 rw[h] at hO
 go_enter Tryz.func77,Tryz.ntmps77
 go_wp2_with fail
 refine (hO _).mono ?_
 rintro e w1 ⟨rfl,hB1⟩
 have r2:w1.heap[w.heap.size+1]?=some (.cells #[.string ⟨#[]⟩,.int .i64 0] 43 (0,0)):=lay_called2 hB1 (heap_second' w _ _)
 have HBB:Hid (Below w.heap.size w w1):=bnext (bal (bstart _ _) _) hB1
 have z0:w1.cell? ⟨w.heap.size+1,0,none⟩=some (.string ⟨#[]⟩):=(cell_of_block r2 0).trans rfl
 have z1:w1.cell? ⟨w.heap.size+1,1,none⟩=some (.int .i64 0):=(cell_of_block r2 1).trans rfl
 have zf:∀ i,w1.frozen? ⟨w.heap.size+1,i,none⟩=false:=fun i=>by simp [World.frozen?,r2]
 have zl:=block_lt r2
 clear r2 hB1 hO
 go_wp2_with fail
 refine bodyPost_ret (v:=.tuple #[.agg #[.string ⟨#[]⟩,.int .i64 0],.bool false]) ?_ rfl ⟨rfl,?_⟩
 ·simp[results,Tryz.results77,go_sem,z0,z1]
 ·exact two_below HBB.out (Nat.le_succ _) _ _
theorem withParts_any (s:ByteArray) (c:Int) (a:Option Addr) (cap:Nat) (L:List Part) (w:World) (hC:PCame w a L) (hR:∀ p∈L,Right p) (hL:L.length≤1000000) (hs:s.size≤maxLen) (hc1:-9223372036854775808≤c) (hc2:c≤9223372036854775807):
  Calls Tryz.prog 77 #[.agg #[.string s,.int .i64 c],.slice a L.length cap] w fun e w'=>e=.returned (blkAns ((outSt s c).bind fun o=>bitsOut o (partBits L)))∧Below w.heap.size w w':=by
 cases h:outB s c with
 | false=>
  rw[show outSt s c=none from if_neg (by rw [h]; decide)]
  exact withParts_no s c a cap _ w hs hc1 hc2 h
 | true=>
  have hf:=fits_of_outB s c h
  obtain⟨k,rfl⟩:=Int.eq_ofNat_of_zero_le hf.2.1
  rw[show outSt s k=some (s,k) from if_pos h]
  exact withParts_yes s k a cap L w hC hR hL h
end
section
open Go.RowKit Go.Joins
def SBx (w X:World) (s:ByteArray) (c:Int):Prop:=Below w.heap.size w X∧X.heap[w.heap.size]?=some (.cells #[.string s,.int .i64 c] 43 (0,0))∧X.heap[w.heap.size+1]?=some (.cells #[.string ⟨#[]⟩,.int .i64 0] 43 (0,0))
theorem SBx.start (w:World) (s:ByteArray) (c:Int):SBx w ((w.alloc (.cells #[.string s,.int .i64 c] 43)).alloc (.cells #[.string ⟨#[]⟩,.int .i64 0] 43)) s c:=⟨bal (bstart _ _) _,heap_two' w _ _,heap_second' w _ _⟩
theorem SBx.called {w X Y:World} {s:ByteArray} {c:Int} (h:SBx w X s c) (hb:Below X.heap.size X Y):SBx w Y s c:=⟨bnext h.1 hb,lay_called2 hb h.2.1,lay_called2 hb h.2.2⟩
theorem SBx.drew {w X:World} {s:ByteArray} {c:Int} (h:SBx w X s c):SBx w X.drew s c:=⟨h.1.drew,h.2⟩
theorem SBx.grown {w X Y:World} {s:ByteArray} {c:Int} {g:Nat} (h:SBx w X s c) (hg:X.grownBy Y (some g)) (hl:w.heap.size+2≤g):SBx w Y s c:=by
 obtain⟨k1,k2,k3⟩:=h
 have h1:=k1.size
 refine⟨k1.grown hg h1 (fun q hq=>by obtain rfl:g=q:=Option.some.inj hq; exact Nat.le_trans (by omega) hl),?_,?_⟩
 ·exact (hg.block _ (block_lt k2) (fun e=>by have:=Option.some.inj e; omega)).trans k2
 ·exact (hg.block _ (block_lt k3) (fun e=>by have:=Option.some.inj e; omega)).trans k3
theorem SBx.cells {w X:World} {s:ByteArray} {c:Int} (h:SBx w X s c):X.cell? ⟨w.heap.size,0,none⟩=some (.string s)∧X.cell? ⟨w.heap.size,1,none⟩=some (.int .i64 c)∧w.heap.size < X.heap.size:=⟨(cell_of_block h.2.1 0).trans rfl,(cell_of_block h.2.1 1).trans rfl,block_lt h.2.1⟩
theorem SBx.res {w X:World} {s:ByteArray} {c:Int} (h:SBx w X s c):X.cell? ⟨w.heap.size+1,0,none⟩=some (.string ⟨#[]⟩)∧X.cell? ⟨w.heap.size+1,1,none⟩=some (.int .i64 0)∧(∀ i,X.frozen? ⟨w.heap.size+1,i,none⟩=false)∧w.heap.size+1 < X.heap.size:=⟨(cell_of_block h.2.2 0).trans rfl,(cell_of_block h.2.2 1).trans rfl,fun i=>by simp [World.frozen?,h.2.2],block_lt h.2.2⟩
end
end Go.Proofs.YtklpiihnbokkkaaGreatDoor
