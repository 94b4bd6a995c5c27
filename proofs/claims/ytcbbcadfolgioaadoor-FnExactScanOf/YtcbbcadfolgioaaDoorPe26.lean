/-
  Texts of the proof, put together.
-/
import Derived.Test.YtcbbcadfolgioaaDoorPe24
import Derived.Test.YtcbbcadfolgioaaDoorPe21
import Derived.Test.YtcbbcadfolgioaaDoorPe25
namespace Go.Proofs.YtcbbcadfolgioaaDoor
open Go.RowKit Go.Joins OutMath TakeMath RastMath FiltMath ScanMath
theorem bts_row (f:Nat→Int) (s D y i:Nat) (hi:i < rb s D):bts (rowT f s D y) i=packB (fun i=>f (y * s+i)) s D i:=by
 unfold rowT packT packL
 rw[bts_str (fun x hx=>by
  obtain⟨m,-,rfl⟩:=List.mem_map.mp hx
  exact packB_range _ _ _ _) i (by rw [packN_length]; exact hi)]
 exact packN_get _ _ _ _ _ hi
theorem bts_zero (n i:Nat) (hi:i < n):bts (zeroT n) i=0:=by
 unfold zeroT
 rw[bts_str (fun x hx=>by rw [List.eq_of_mem_replicate hx]; omega) i (by rw [List.length_replicate]; exact hi)]
 simp[List.getD_eq_getElem?_getD,hi]
theorem rowB_any (cw N D:Nat) (c:Int) (hcw:cw≤24) (hd:DepthR c (D:Int)) (hN:chan c=(N:Int)):rowB (cw:Int) c (D:Int)=(rb (cw * N) D:Int):=by
 rcases Nat.eq_zero_or_pos cw with e | e
 ·unfold rowB rb
  rw[if_neg (fun h=>by have:=h.1.1; omega),e,Nat.zero_mul,Nat.zero_mul]
  rfl
 ·exact rowB_rb ⟨e,hcw⟩ hd hN rfl
theorem line_first (way:Int) (f:Nat→Int) (s D u y:Nat):(lineL way f s D u y).getD 0 0=kindV way (rowT f s D y) (aboveT f s D y) u:=rfl
theorem line_next {way:Int} {f:Nat→Int} {s D u:Nat} (hw:0≤way∧way≤5) (hu:1≤u∧u≤8) (hb:rb s D≤200) (y i:Nat) (hi:i < rb s D):(lineL way f s D u y).getD (i+1) 0=filtB (kindV way (rowT f s D y) (aboveT f s D y) u) (bts (rowT f s D y)) (bts (aboveT f s D y)) u i:=by
 have hr:=row_right (f:=f) hw hu hb y
 unfold lineL filtV
 rw[List.getD_cons_succ,if_pos hr,nums_get _ _ (by rw [filtT_size,rowT_size]; exact hi),Int.toNat_natCast]
 unfold filtT
 rw[bts_str (fun x hx=>by
  obtain⟨m,-,rfl⟩:=List.mem_map.mp hx
  exact filtB_byte _ _ _ _ _) i (by rw [filtL_length,rowT_size]; exact hi),filtL_get _ _ _ _ _ _ (by rw [rowT_size]; exact hi)]
def TelM (w w':World) (base G NT cb off:Nat) (h0 f:Nat→Int) (way:Int) (s D u y R A:Nat):Prop:=
 (∃ h,BFn w' base G NT cb h∧(∀ i,i < y * (rb s D+1)→h (off+i)=(linesL way f s D u y).getD i 0)∧(∀ i,i < off→h i=h0 i))∧(∃ hr,BFn w' (w.heap.size+1) R (rb s D) (rb s D) hr)∧BFn w' (w.heap.size+1) A (rb s D) (rb s D) (bts (aboveT f s D y))∧R≠A∧But G w w'
def TelJ (cw H N D n cap:Nat) (c way:Int) (a:Option Addr) (f h0:Nat→Int) (base G NT cb off:Nat) (tv:Value) (w:World) (act:Act) (w':World):Prop:=
 ∃ (y at_ R A:Nat) (U:Nat→Value),act={ tmps:=#[.agg #[.int .i64 (cw:Int),.int .i64 (H:Int),.int .i64 c,.int .i64 (D:Int),.slice a n cap],tv,.int .i64 way,.pointer (some ⟨w.heap.size,0,none⟩),undef,undef,.int .i64 0,.int .i64 (rb (cw * N) D:Int),.int .i64 (unitN N D:Int),.slice (some ⟨R,0,none⟩) (rb (cw * N) D) (rb (cw * N) D),.slice (some ⟨A,0,none⟩) (rb (cw * N) D) (rb (cw * N) D),.int .i64 (y:Int),.int .i64 (at_:Int),U 13,U 14,U 15,U 16,U 17,U 18,U 19,U 20,U 21,U 22,U 23,U 24,U 25,U 26,U 27,U 28,U 29,U 30,U 31,U 32,U 33,U 34,U 35,U 36,U 37,U 38,U 39,U 40,U 41,U 42,U 43,U 44,U 45,U 46,U 47,U 48,U 49,U 50,U 51,U 52,U 53,U 54,U 55,U 56,U 57,U 58,U 59,U 60,U 61,U 62,U 63,U 64,U 65,U 66,U 67,U 68,U 69,U 70,U 71,U 72],defers:=[] }∧y≤H∧at_=y * (rb (cw * N) D+1)∧w'.heap[w.heap.size]?=some (.cells #[.int .i64 (cw:Int),.int .i64 (H:Int),.int .i64 c,.int .i64 (D:Int),.slice a n cap] 26 (0,0))∧TelM w w' base G NT cb off h0 f way (cw * N) D (unitN N D) y R A
theorem telJ_mk (cw H N D n cap:Nat) (c way:Int) (a:Option Addr) (f h0:Nat→Int) (base G NT cb off:Nat) (tv:Value) (w:World) {w':World} {y at_ R A:Nat} (u13 u14 u15 u16 u17 u18 u19 u20 u21 u22 u23 u24 u25 u26 u27 u28 u29 u30 u31 u32 u33 u34 u35 u36 u37 u38 u39 u40 u41 u42 u43 u44 u45 u46 u47 u48 u49 u50 u51 u52 u53 u54 u55 u56 u57 u58 u59 u60 u61 u62 u63 u64 u65 u66 u67 u68 u69 u70 u71 u72:Value) (hy:y≤H) (ha:at_=y * (rb (cw * N) D+1)) (hb:w'.heap[w.heap.size]?=some (.cells #[.int .i64 (cw:Int),.int .i64 (H:Int),.int .i64 c,.int .i64 (D:Int),.slice a n cap] 26 (0,0))) (hS:TelM w w' base G NT cb off h0 f way (cw * N) D (unitN N D) y R A):TelJ cw H N D n cap c way a f h0 base G NT cb off tv w { tmps:=#[.agg #[.int .i64 (cw:Int),.int .i64 (H:Int),.int .i64 c,.int .i64 (D:Int),.slice a n cap],tv,.int .i64 way,.pointer (some ⟨w.heap.size,0,none⟩),undef,undef,.int .i64 0,.int .i64 (rb (cw * N) D:Int),.int .i64 (unitN N D:Int),.slice (some ⟨R,0,none⟩) (rb (cw * N) D) (rb (cw * N) D),.slice (some ⟨A,0,none⟩) (rb (cw * N) D) (rb (cw * N) D),.int .i64 (y:Int),.int .i64 (at_:Int),u13,u14,u15,u16,u17,u18,u19,u20,u21,u22,u23,u24,u25,u26,u27,u28,u29,u30,u31,u32,u33,u34,u35,u36,u37,u38,u39,u40,u41,u42,u43,u44,u45,u46,u47,u48,u49,u50,u51,u52,u53,u54,u55,u56,u57,u58,u59,u60,u61,u62,u63,u64,u65,u66,u67,u68,u69,u70,u71,u72],defers:=[] } w':=
 ⟨y,at_,R,A,fun i=>[u13,u14,u15,u16,u17,u18,u19,u20,u21,u22,u23,u24,u25,u26,u27,u28,u29,u30,u31,u32,u33,u34,u35,u36,u37,u38,u39,u40,u41,u42,u43,u44,u45,u46,u47,u48,u49,u50,u51,u52,u53,u54,u55,u56,u57,u58,u59,u60,u61,u62,u63,u64,u65,u66,u67,u68,u69,u70,u71,u72].getD (i - 13) undef,rfl,hy,ha,hb,hS⟩
theorem tel_cells {cw H D n cap:Nat} {c:Int} {a:Option Addr} {W:World} {X:Nat} (h:W.heap[X]?=some (.cells #[.int .i64 (cw:Int),.int .i64 (H:Int),.int .i64 c,.int .i64 (D:Int),.slice a n cap] 26 (0,0))):W.cell? ⟨X,0,none⟩=some (.int .i64 (cw:Int))∧W.cell? ⟨X,1,none⟩=some (.int .i64 (H:Int))∧W.cell? ⟨X,2,none⟩=some (.int .i64 c)∧W.cell? ⟨X,3,none⟩=some (.int .i64 (D:Int))∧W.cell? ⟨X,4,none⟩=some (.slice a n cap)∧X < W.heap.size:=
 ⟨(cell_of_block h 0).trans rfl,(cell_of_block h 1).trans rfl,(cell_of_block h 2).trans rfl,(cell_of_block h 3).trans rfl,(cell_of_block h 4).trans rfl,block_lt h⟩
theorem telM_next {w wr w2 w3 w4 w5 w6:World} {base G NT cb off:Nat} {h0 f:Nat→Int} {way:Int} {s D u y R A:Nat} {h:Nat→Int}
  (hw:0≤way∧way≤5) (hu:1≤u∧u≤8) (hb:rb s D≤200) (hGw:G < w.heap.size)
  (hh:∀ i,i < y * (rb s D+1)→h (off+i)=(linesL way f s D u y).getD i 0) (hl:∀ i,i < off→h i=h0 i)
  (hA:BFn wr (w.heap.size+1) A (rb s D) (rb s D) (bts (aboveT f s D y))) (hRA:R≠A) (hBw:But G w wr)
  (b2:Below wr.heap.size wr w2) (hR3:BFn w3 (w.heap.size+1) R (rb s D) (rb s D) (bts (rowT f s D y))) (b3:But R w2 w3) (b4:Below w3.heap.size w3 w4)
  (e5:w5=w4.setCell ⟨G,off+y * (rb s D+1),none⟩ (.int .u8 (kindV way (rowT f s D y) (aboveT f s D y) u)))
  (hF:FltI w5 w6 base G NT cb (off+y * (rb s D+1)+1) (rb s D) (upd h (off+y * (rb s D+1)) (kindV way (rowT f s D y) (aboveT f s D y) u)) (filtB (kindV way (rowT f s D y) (aboveT f s D y) u) (bts (rowT f s D y)) (bts (aboveT f s D y)) u) (rb s D)):
  TelM w w6 base G NT cb off h0 f way s D u (y+1) A R:=by
 have hRb:=Own.base_le hR3
 have hAb:=Own.base_le hA
 have hRG:R≠G:=by omega
 have hAG:A≠G:=by omega
 obtain⟨h',hO',hh',hl',hB'⟩:=hF
 have hA4:BFn w4 (w.heap.size+1) A (rb s D) (rb s D) (bts (aboveT f s D y)):=((hA.called b2).but b3 (Ne.symm hRA)).called b4
 have hR4:=hR3.called b4
 have b5:But G w4 w5:=by rw [e5]; exact (But.refl _ _).set _ _
 have b6:But G w4 w6:=b5.trans hB'
 have hB4:But G w w4:=by
  have h2:But G w w2:=hBw.next b2
  have h3:But G w w3:=⟨b3.os.trans h2.os,b3.tape.trans h2.tape,b3.output.trans h2.output,Nat.le_trans h2.size b3.size,fun k hk hg=>(b3.block k (Nat.lt_of_lt_of_le hk h2.size) (by omega)).trans (h2.block k hk hg)⟩
  exact h3.next b4
 have hll:=linesL_length (f:=f) hw hu hb y
 refine⟨⟨h',hO',fun i hi=>?_,fun i hi=>?_⟩,⟨_,hA4.but b6 hAG⟩,hR4.but b6 hRG,Ne.symm hRA,hB4.trans b6⟩
 ·rw[Nat.add_mul,Nat.one_mul] at hi
  rw[linesL_succ,List.getD_eq_getElem?_getD]
  by_cases e1:i < y * (rb s D+1)
  ·rw[List.getElem?_append_left (by rw [hll]; exact e1),← List.getD_eq_getElem?_getD,hl' (off+i) (.inl (by omega))]
   unfold upd
   rw[if_neg (by omega),hh i e1]
  ·rw[List.getElem?_append_right (by rw [hll]; omega),hll,← List.getD_eq_getElem?_getD]
   by_cases e2:i=y * (rb s D+1)
   ·rw[e2,Nat.sub_self,line_first,hl' _ (.inl (by omega))]
    unfold upd
    rw[if_pos rfl]
   ·obtain⟨k,hk⟩:∃ k,i=y * (rb s D+1)+1+k:=⟨i - (y * (rb s D+1)+1),by omega⟩
    rw[show i - y * (rb s D+1)=k+1 by omega,line_next hw hu hb y k (by omega),show off+i=off+y * (rb s D+1)+1+k by omega]
    exact hh' k (by omega)
 ·rw[hl' i (.inl (by omega))]
  unfold upd
  rw[if_neg (by omega),hl i hi]
set_option maxRecDepth 100000 in
set_option maxHeartbeats 6400000 in
theorem tellLines_any (cw H N D n cap:Nat) (c way:Int) (a:Option Addr) (f h0:Nat→Int) (base G NT cb off:Nat) (tv:Value) (w:World) (m ct:Nat) (hcw:cw≤24) (hH:H≤24) (h1:1≤H→1≤cw) (hd:DepthR c (D:Int)) (hNc:chan c=(N:Int)) (hway:0≤way∧way≤5) (hn:n=H * (cw * N)) (hcap:n≤cap) (hcm:cap≤maxLen) (hC:Came w a n f) (hF:Fit12 f n D) (hne:∀ q o,a=some ⟨q,o,none⟩→n=0∨q≠G)
  (hO:BFn w base G NT cb h0) (htv:H=0∨tv=.slice (some ⟨G,off,none⟩) m ct) (hm:H * (rb (cw * N) D+1)≤m) (hmt:m≤ct) (hct:ct≤1048576) (hNT:off+H * (rb (cw * N) D+1)≤NT):
  Calls Tryd.prog 45 #[.agg #[.int .i64 (cw:Int),.int .i64 (H:Int),.int .i64 c,.int .i64 (D:Int),.slice a n cap],tv,.int .i64 way] w fun e w'=>e=.returned (.int .i64 ((H * (rb (cw * N) D+1):Nat):Int))∧(∃ h,BFn w' base G NT cb h∧(∀ i,i < H * (rb (cw * N) D+1)→h (off+i)=(linesL way f (cw * N) D (unitN N D) H).getD i 0)∧(∀ i,i < off→h i=h0 i))∧But G w w':=by
 have hN4:N≤4:=by have:=(chan_range c).2; omega
 have h5:=five_range (depth_five hd)
 have hD16:D≤16:=by omega
 have hs96:cw * N≤96:=Nat.mul_le_mul hcw hN4
 have hnb:rb (cw * N) D≤200:=rb_small hs96 hD16
 have hur:=unitN_range hN4 hD16
 have hGw:G < w.heap.size:=Own.lt hO
 have hwf:∀ x:Int,-100000≤x→x≤100000→(Lit.int .i64 x).wf=true:=fun x h1 h2=>by
  simp[Lit.wf,IntKind.min,IntKind.max,IntKind.signed,IntKind.bits]
  omega
 have hcb:-100000≤c∧c≤100000:=by
  have:=chan_pos hd
  unfold chan at this
  repeat' split at this
  all_goals omega
 have hrb:=fun W=>rowBytes_answer (cw:Int) c (D:Int) W (hwf _ (by omega) (by omega)) (hwf c hcb.1 hcb.2) (hwf _ (by omega) (by omega))
 rw[rowB_any cw N D c hcw hd hNc] at hrb
 have hpu:=fun W=>pixelUnit_any c N D W hNc hN4 hD16
 have HC:=hid_of hC
 have HO:=hid_of hO
 have HTV:=hid_of htv
 have HNE:=hid_of hne
 have HF:=hid_of hF
 have HN:=hid_of hn
 have HD:=hid_of hd
 have HNC:=hid_of hNc
 have HH1:=hid_of h1
 have HNT:=hid_of hNT
 have HM:=hid_of hm
 have HWF:=hid_of hwf
 have HX:Hid ((w.alloc (.cells #[.int .i64 (cw:Int),.int .i64 (H:Int),.int .i64 c,.int .i64 (D:Int),.slice a n cap] 26)).heap[w.heap.size]?=some (.cells #[.int .i64 (cw:Int),.int .i64 (H:Int),.int .i64 c,.int .i64 (D:Int),.slice a n cap] 26 (0,0))):=heap_alloc_new w _
 have HBX:=hid_of (bstart w (.cells #[.int .i64 (cw:Int),.int .i64 (H:Int),.int .i64 c,.int .i64 (D:Int),.slice a n cap] 26))
 clear hC hO htv hne hF hn hd hNc h1 hNT hm hwf
 go_enter Tryd.func45,Tryd.ntmps45
 go_wp2_with fail
 generalize w.alloc (.cells #[.int .i64 (cw:Int),.int .i64 (H:Int),.int .i64 c,.int .i64 (D:Int),.slice a n cap] 26)=W1 at HX HBX ⊢
 refine wp_scope_from 0 (TelJ cw H N D n cap c way a f h0 base G NT cb off tv w) (fun a' _=>H - (intOf (a'.tmps.getD 11 undef)).toNat) rfl ?_ ?_
 ·rintro a' wr ⟨y,at_,R,A,U,rfl,hy,hat,hbx,hS⟩
  clear hrb hpu HX HBX
  generalize hX:w.heap.size=X at hbx ⊢
  have HXE:=hid_of hX
  clear hX
  have k0:wr.cell? ⟨X,0,none⟩=some (.int .i64 (cw:Int)):=(cell_of_block hbx 0).trans rfl
  have k1:wr.cell? ⟨X,1,none⟩=some (.int .i64 (H:Int)):=(cell_of_block hbx 1).trans rfl
  have k2:wr.cell? ⟨X,2,none⟩=some (.int .i64 c):=(cell_of_block hbx 2).trans rfl
  have k3:wr.cell? ⟨X,3,none⟩=some (.int .i64 (D:Int)):=(cell_of_block hbx 3).trans rfl
  have k4:wr.cell? ⟨X,4,none⟩=some (.slice a n cap):=(cell_of_block hbx 4).trans rfl
  have lx:=block_lt hbx
  have HBX:=hid_of hbx
  have HAT:=hid_of hat
  have HS:=hid_of hS
  clear hbx hat hS
  by_cases hlt:y < H
  ·have e1:((y:Int) == (H:Int))=false:=beq_no1 (by omega)
   have e2:decide ((y:Int)=(H:Int))=false:=decide_eq_false (by omega)
   obtain⟨⟨h,hO,hh,hl⟩,⟨hr,hR⟩,hA,hRA,hBw⟩:=HS.out
   have hcw1:1≤cw:=HH1.out (by omega)
   have hN1:1≤N:=by
    have h1:=chan_pos HD.out
    have h2:=HNC.out
    omega
   obtain⟨s,hs⟩:∃ s,s=cw * N:=⟨_,rfl⟩
   have hs1:1≤s:=by rw [hs]; exact Nat.mul_le_mul hcw1 hN1
   have hsi:(cw:Int) * chan c=(s:Int):=by rw [HNC.out,hs]; simp
   rw[← hs] at hs96
   have hyn:y * s+s≤n:=by
    have:=Nat.mul_le_mul_right s (show y+1≤H by omega)
    rw[Nat.add_mul,Nat.one_mul] at this
    rw[HN.out,← hs]
    exact this
   have hnm:n≤100000:=by
    have:=Nat.mul_le_mul hH hs96
    rw[HN.out,← hs]
    omega
   obtain⟨ga,oa,haE,hga,hgc⟩:∃ ga oa,a=some ⟨ga,oa,none⟩∧ga < w.heap.size∧∀ j,j < n→w.cell? ⟨ga,oa+j,none⟩=some (.int .i64 (f j)):=by
    rcases HC.out with q | q
    ·omega
    ·exact q
   subst haE
   have hgG:ga≠G:=by
    rcases HNE.out ga oa rfl with q | q
    ·omega
    ·exact q
   have hrow:=fun W=>row_at (cw:Int) (H:Int) c (D:Int) ga oa n cap s y W hs1 hs96 hsi hcap hcm (by omega) hyn hnm
   obtain⟨nb,hnbE⟩:∃ nb,nb=rb (cw * N) D:=⟨_,rfl⟩
   have hnbs:nb=rb s D:=by rw [hnbE,hs]
   have hRb:=Own.base_le hR
   have hAb:=Own.base_le hA
   obtain⟨r0,hr0⟩:∃ q,q=y * s:=⟨_,rfl⟩
   rw[← hr0] at hrow
   have hR0:y * nb≤24 * 200:=Nat.mul_le_mul (by omega) (by rw [hnbE]; exact hnb)
   have haty:at_=y * nb+y:=by rw [HAT.out,hnbE,Nat.mul_add,Nat.mul_one]
   have hmB:at_+1+nb≤m:=by
    have h1:=HM.out
    have h2:=Nat.mul_le_mul_right (nb+1) (show y+1≤H by omega)
    rw[← hnbE] at h1
    rw[Nat.add_mul,Nat.one_mul] at h2
    have h3:y * (nb+1)=y * nb+y:=by rw [Nat.mul_add,Nat.mul_one]
    omega
   have hNB:off+at_+1+nb≤NT:=by
    have h1:=HNT.out
    have h2:=Nat.mul_le_mul_right (nb+1) (show y+1≤H by omega)
    rw[← hnbE] at h1
    rw[Nat.add_mul,Nat.one_mul] at h2
    have h3:y * (nb+1)=y * nb+y:=by rw [Nat.mul_add,Nat.mul_one]
    omega
   have hnb1:1≤nb:=by
    rw[hnbs]
    unfold rb
    have:=Nat.mul_le_mul hs1 (show 1≤D by omega)
    omega
   have hnb2:nb≤200:=by rw [hnbE]; exact hnb
   have HTVs:=hid_of (show tv=.slice (some ⟨G,off,none⟩) m ct from by
    rcases HTV.out with q | q
    ·omega
    ·exact q)
   obtain⟨K0,hK0⟩:∃ k,k=kindV way (rowT f s D y) (aboveT f s D y) (unitN N D):=⟨_,rfl⟩
   have hkr:0≤K0∧K0≤4:=by rw [hK0]; exact kindV_range hway _ _ _
   rw[← hs] at hR hA hh
   have HALL:Hid (∀ w2 w3 w4 w6,Below wr.heap.size wr w2→BFn w3 (w.heap.size+1) R (rb s D) (rb s D) (bts (rowT f s D y))→But R w2 w3→Below w3.heap.size w3 w4→FltI (w4.setCell ⟨G,off+at_,none⟩ (.int .u8 K0)) w6 base G NT cb (off+at_+1) nb (upd h (off+at_) K0) (filtB K0 (bts (rowT f s D y)) (bts (aboveT f s D y)) (unitN N D)) nb→TelM w w6 base G NT cb off h0 f way s D (unitN N D) (y+1) A R):=fun w2 w3 w4 w6 b2 hR3 b3 b4 hF6=>by
    rw[hnbs,HAT.out,← hs,hK0] at hF6
    exact telM_next (w2:=w2) (w4:=w4) hway hur (by rw [← hnbs]; exact hnb2) hGw hh hl hA hRA hBw b2 hR3 b3 b4 rfl hF6
   obtain rfl:=HTVs.out
   rw[← hnbE]
   obtain⟨u,hu⟩:∃ u,u=unitN N D:=⟨_,rfl⟩
   rw[← hu] at hur hK0 HALL ⊢
   have HUE:=hid_of hu
   have HSE:=hid_of hs
   have HNBE:=hid_of hnbE
   have HNBS:=hid_of hnbs
   have HOr:=hid_of hO
   have HRr:=hid_of (show BFn wr (w.heap.size+1) R nb nb hr by rw [hnbs]; exact hR)
   have HAr:=hid_of (show BFn wr (w.heap.size+1) A nb nb (bts (aboveT f s D y)) by rw [hnbs]; exact hA)
   have HBw:=hid_of hBw
   have HGC:=hid_of hgc
   have HK0:=hid_of hK0
   have HR0:=hid_of hr0
   have HSI:=hid_of hsi
   have HFY:Hid (Fit12 (fun i=>f (y * s+i)) s D):=fun i hi=>HF.out (y * s+i) (by omega)
   have hXR:X≠R:=by have:=HXE.out; omega
   have hXA:X≠A:=by have:=HXE.out; omega
   have hXG:X≠G:=by have:=HXE.out; omega
   have hRG:R≠G:=by omega
   have hAG:A≠G:=by omega
   have hgR:ga≠R:=by omega
   have hHA:=hid_of haty
   clear hu hs hnbE hnbs hO hR hA hBw hgc hK0 hr0 hsi hh hl haty HM HNT HWF HH1
   go_wp2_with fail
   refine wp_region_held (S:=fun u=>u.cell? ⟨X,0,none⟩=some (.int .i64 (cw:Int))∧u.cell? ⟨X,1,none⟩=some (.int .i64 (H:Int))∧u.cell? ⟨X,2,none⟩=some (.int .i64 c)∧u.cell? ⟨X,3,none⟩=some (.int .i64 (D:Int))∧u.cell? ⟨X,4,none⟩=some (.slice (some ⟨ga,oa,none⟩) n cap)∧X < u.heap.size) (by kernel_rfl) ?_
   show wpAnyH _ _ _ _ _ _ _ _ wr.drew
   have HS0:=tel_cells (W:=wr.drew) HBX.out
   refine wpAnyH_take (i:=0) (v:=.slice (some ⟨R,0,none⟩) nb nb) rfl (by kernel_rfl) (by kernel_rfl) (by kernel_rfl) (fun _ _ _ h=>h) (Or.inl ⟨by rfl,?_⟩) HS0 ?_
   ·intro w' hS
    obtain⟨s0,s1,s2,s3,s4,s5⟩:=hS
    go_simp
   simp only [Act.put,List.getElem_toArray,List.getElem_cons_zero,List.setIfInBounds_toArray,List.set_cons_zero,List.set_cons_succ]
   refine wpAnyH_take (i:=1) (v:=.agg #[.int .i64 (cw:Int),.int .i64 (H:Int),.int .i64 c,.int .i64 (D:Int),.slice (some ⟨ga,oa,none⟩) n cap]) rfl (by kernel_rfl) (by kernel_rfl) (by kernel_rfl) (fun _ _ _ h=>h) (Or.inl ⟨by rfl,?_⟩) HS0 ?_
   ·intro w' hS
    obtain⟨s0,s1,s2,s3,s4,s5⟩:=hS
    go_simp
   simp only [Act.put,List.getElem_toArray,List.getElem_cons_zero,List.getElem_cons_succ,List.setIfInBounds_toArray,List.set_cons_zero,List.set_cons_succ]
   refine wpAnyH_take (i:=2) (v:=.int .i64 (y:Int)) rfl (by kernel_rfl) (by kernel_rfl) (by kernel_rfl) (fun _ _ _ h=>h) (Or.inl ⟨by rfl,?_⟩) HS0 ?_
   ·intro w' hS
    obtain⟨s0,s1,s2,s3,s4,s5⟩:=hS
    go_simp
   simp only [Act.put,List.getElem_toArray,List.getElem_cons_zero,List.getElem_cons_succ,List.setIfInBounds_toArray,List.set_cons_zero,List.set_cons_succ]
   refine wpAnyH_take (i:=4) (v:=.pointer (some ⟨X,3,none⟩)) rfl (by kernel_rfl) (by kernel_rfl) (by kernel_rfl) (fun _ _ _ h=>h) (Or.inl ⟨by rfl,?_⟩) HS0 ?_
   ·intro w' hS
    obtain⟨s0,s1,s2,s3,s4,s5⟩:=hS
    go_simp
   simp only [Act.put,List.getElem_toArray,List.getElem_cons_zero,List.getElem_cons_succ,List.setIfInBounds_toArray,List.set_cons_zero,List.set_cons_succ]
   refine wpAnyH_take (i:=5) (v:=.int .i64 (D:Int)) rfl (by kernel_rfl) (by kernel_rfl) (by kernel_rfl) (fun _ _ _ h=>h) (Or.inl ⟨by rfl,?_⟩) HS0 ?_
   ·intro w' hS
    obtain⟨s0,s1,s2,s3,s4,s5⟩:=hS
    go_simp
   simp only [Act.put,List.getElem_toArray,List.getElem_cons_zero,List.getElem_cons_succ,List.setIfInBounds_toArray,List.set_cons_zero,List.set_cons_succ]
   refine wpAnyH_ready (rs:=[3]) (by kernel_rfl) (by simp) ?_
   refine AllReadyH.cons rfl (fun K hK=>?_) AllReadyH.nil
   refine if_wanted (wanted_none rfl) ?_
   simp only [List.getElem_toArray,List.getElem_cons_zero,List.getElem_cons_succ]
   go_simp
   refine (hrow wr.drew).mono ?_
   rintro e w2 ⟨rfl,hB2⟩
   have HB2:Hid (Below wr.heap.size wr w2):=⟨hB2.1,hB2.2,hB2.3,hB2.4,hB2.5⟩
   have BX2:=hid_of ((HB2.out.block _ (block_lt HBX.out)).trans HBX.out)
   clear hB2 hrow
   refine hK.out _ _ (tel_cells BX2.out) (fun HS2=>?_)
   clear hK K HS0
   have hp:=packInto_any (some ⟨ga,oa+r0,none⟩) s s D (w.heap.size+1) R nb nb (fun i=>f (y * s+i)) hr w2 (.inr ⟨ga,oa+r0,rfl,Nat.lt_of_lt_of_le hga (Nat.le_trans HBw.out.size HB2.out.size),fun j hj=>by
    rw[HB2.out.cell (p:=⟨ga,oa+r0+j,none⟩) (Nat.lt_of_lt_of_le hga HBw.out.size),HBw.out.cell hga hgG,Nat.add_assoc,HGC.out (r0+j) (by rw [HR0.out]; omega),HR0.out]⟩) (depth_five HD.out) (by omega) HFY.out (by rw [HNBS.out]; rfl) (HRr.out.called HB2.out) (fun q o hq=>.inr (by cases hq; exact hgR))
   refine wpAnyH_ready (rs:=[6]) (by kernel_rfl) (by simp) ?_
   refine AllReadyH.cons rfl (fun K hK=>?_) AllReadyH.nil
   refine if_wanted (wanted_none rfl) ?_
   simp only [List.getElem_toArray,List.getElem_cons_zero,List.getElem_cons_succ]
   go_simp
   refine hp.mono ?_
   rintro e w3 ⟨rfl,⟨hp3,hR3,hpk⟩,hB3⟩
   have HR3:Hid (BFn w3 (w.heap.size+1) R nb nb (bts (rowT f s D y))):=hR3.congr fun i hi=>by
    rw[hpk i hi,bts_row f s D y i (by rw [← HNBS.out]; exact hi)]
   have HA3:Hid (BFn w3 (w.heap.size+1) A nb nb (bts (aboveT f s D y))):=(HAr.out.called HB2.out).but hB3 (Ne.symm hRA)
   have HO3:Hid (BFn w3 base G NT cb h):=(HOr.out.called HB2.out).but hB3 (Ne.symm hRG)
   have BX3:=hid_of ((hB3.block _ (block_lt BX2.out) hXR).trans BX2.out)
   have HB3:=hid_of hB3
   clear hp hR3 hpk hB3 HS2
   refine hK.out _ _ (tel_cells BX3.out) (fun _=>?_)
   clear hK K
   refine wpAnyH_done (by kernel_rfl) ?_ _
   have hkw:=kindOfWay_any way (rowT f s D y) (aboveT f s D y) u nb R nb A nb w3 hur hnb2 (by rw [HNBS.out]; exact rowT_size f s D y) (by rw [HNBS.out]; exact aboveT_size f s D y) HR3.out.at HA3.out.at
   rw[← HK0.out] at hkw
   clear k0 k1 k2 k3 k4 lx
   go_wp2_with fail
   refine hkw.mono ?_
   rintro e w4 ⟨rfl,hB4⟩
   have HB4:=hid_of hB4
   have HO4:=hid_of (HO3.out.called hB4)
   have HR4:=hid_of (HR3.out.called hB4)
   have HA4:=hid_of (HA3.out.called hB4)
   have BX4:=hid_of ((hB4.block _ (block_lt BX3.out)).trans BX3.out)
   have c4:=HO4.out.cell (off+at_) (by omega)
   have f4:=HO4.out.free (off+at_) (by omega)
   have l4:G < w4.heap.size:=Own.lt HO4.out
   have u8k:IntKind.u8.wrap K0=K0:=by show K0 % 256=K0; omega
   have u8m:K0 % 256=K0:=by omega
   have hat1:(at_:Int) < (m:Int):=by omega
   have b5:But G w4 (w4.setCell ⟨G,off+at_,none⟩ (.int .u8 K0)):=(But.refl _ _).set _ _
   have HF6:Hid (∀ cs,Calls Tryd.prog 86 #[.slice (some ⟨G,off+at_+1,none⟩) nb cs,.int .i64 K0,.slice (some ⟨R,0,none⟩) nb nb,.slice (some ⟨A,0,none⟩) nb nb,.int .i64 (u:Int)] (w4.setCell ⟨G,off+at_,none⟩ (.int .u8 K0)) fun e w'=>e=.returned (.tuple #[])∧FltI (w4.setCell ⟨G,off+at_,none⟩ (.int .u8 K0)) w' base G NT cb (off+at_+1) nb (upd h (off+at_) K0) (filtB K0 (bts (rowT f s D y)) (bts (aboveT f s D y)) u) nb):=fun cs=>
    filterInto_any K0 hkr _ _ _ u nb base G NT cb (off+at_+1) cs R nb A nb _ hur hnb2 (bts_byte _) (bts_byte _) (HO4.out.set (off+at_) (by omega) K0) (by omega) (HR4.out.at.but b5 hRG) (HA4.out.at.but b5 hAG) hRG hAG
   have BX5:Hid ((w4.setCell ⟨G,off+at_,none⟩ (.int .u8 K0)).heap[X]?=some (.cells #[.int .i64 (cw:Int),.int .i64 (H:Int),.int .i64 c,.int .i64 (D:Int),.slice (some ⟨ga,oa,none⟩) n cap] 26 (0,0))):=(b5.block _ (block_lt BX4.out) hXG).trans BX4.out
   clear hkw hB4 b5
   have ne1:¬ at_+1+nb=at_+1:=by omega
   have ne2:¬ (at_:Int)+1+(nb:Int)=(at_:Int)+1:=by omega
   go_wp2_with fail
   refine (HF6.out _).mono ?_
   rintro e w6 ⟨rfl,hFl⟩
   have BX6:Hid (w6.heap[X]?=some (.cells #[.int .i64 (cw:Int),.int .i64 (H:Int),.int .i64 c,.int .i64 (D:Int),.slice (some ⟨ga,oa,none⟩) n cap] 26 (0,0))):=by
    obtain⟨-,-,-,-,hB6⟩:=hFl
    exact (hB6.block _ (block_lt BX5.out) hXG).trans BX5.out
   have HT:=hid_of (HALL.out w2 w3 w4 w6 HB2.out (by rw [← HNBS.out]; exact HR3.out) HB3.out HB4.out hFl)
   clear hFl HF6 HALL c4 f4 l4
   go_wp2_with fail
   go_step3
   have e3:(y:Int)+1=((y+1:Nat):Int):=by omega
   have e4:(at_:Int)+1+(nb:Int)=((at_+1+nb:Nat):Int):=by omega
   rw[e3,e4]
   have hA1:at_+1+nb=(y+1) * (nb+1):=by
    have h3:(y+1) * (nb+1)=y * nb+y+nb+1:=by rw [Nat.add_mul,Nat.mul_add]; omega
    have:=hHA.out
    omega
   obtain rfl:=HXE.out
   obtain rfl:=HSE.out
   obtain rfl:=HUE.out
   obtain rfl:=HNBE.out
   refine⟨rfl,telJ_mk cw H N D n cap c way (some ⟨ga,oa,none⟩) f h0 base G NT cb off (.slice (some ⟨G,off,none⟩) m ct) w (y:=y+1) (at_:=at_+1+rb (cw * N) D) (R:=A) (A:=R) _ _ _ _ _ _ _ _ _ _ _ _ _ _ _ _ _ _ _ _ _ _ _ _ _ _ _ _ _ _ _ _ _ _ _ _ _ _ _ _ _ _ _ _ _ _ _ _ _ _ _ _ _ _ _ _ _ _ _ _ (by omega) hA1 BX6.out HT.out,?_⟩
   simp[intOf]
   omega
  ·obtain rfl:y=H:=by omega
   have e1:((y:Int) == (y:Int))=true:=beq_of1 rfl
   have e2:decide ((y:Int)=(y:Int))=true:=decide_eq_true rfl
   obtain⟨hM,-,-,-,hB⟩:=HS.out
   have HE:=hid_of hM
   have HBE:=hid_of hB
   clear hM hB HS
   go_wp2_with fail
   simp only [Exit.jump]
   go_ret
   exact⟨by rw [← HAT.out]; rfl,HE.out,HBE.out⟩
 ·intro hgo
  obtain⟨X,hX⟩:∃ X,X=w.heap.size:=⟨_,rfl⟩
  have HXE:=hid_of hX
  have hbx:=HX.out
  rw[← hX] at hbx
  have k0:W1.cell? ⟨X,0,none⟩=some (.int .i64 (cw:Int)):=(cell_of_block hbx 0).trans rfl
  have k1:W1.cell? ⟨X,1,none⟩=some (.int .i64 (H:Int)):=(cell_of_block hbx 1).trans rfl
  have k2:W1.cell? ⟨X,2,none⟩=some (.int .i64 c):=(cell_of_block hbx 2).trans rfl
  have k3:W1.cell? ⟨X,3,none⟩=some (.int .i64 (D:Int)):=(cell_of_block hbx 3).trans rfl
  have k4:W1.cell? ⟨X,4,none⟩=some (.slice a n cap):=(cell_of_block hbx 4).trans rfl
  have lx:=block_lt hbx
  have HGO:=hid_of hgo
  have HBX0:=hid_of hbx
  rw[← hX]
  clear hgo hX hbx
  go_wp2_with fail
  refine wp_region_held (S:=fun u=>u.cell? ⟨X,0,none⟩=some (.int .i64 (cw:Int))∧u.cell? ⟨X,1,none⟩=some (.int .i64 (H:Int))∧u.cell? ⟨X,2,none⟩=some (.int .i64 c)∧u.cell? ⟨X,3,none⟩=some (.int .i64 (D:Int))∧u.cell? ⟨X,4,none⟩=some (.slice a n cap)∧X < u.heap.size) (by kernel_rfl) ?_
  show wpAnyH _ _ _ _ _ _ _ _ W1.drew
  have HS0:=tel_cells (W:=W1.drew) HBX0.out
  refine wpAnyH_take (i:=0) (v:=.pointer (some ⟨X,0,none⟩)) rfl (by kernel_rfl) (by kernel_rfl) (by kernel_rfl) (fun _ _ _ h=>h) (Or.inl ⟨by rfl,?_⟩) HS0 ?_
  ·intro w' hS
   obtain⟨s0,s1,s2,s3,s4,s5⟩:=hS
   go_simp
  simp only [Act.put,List.getElem_toArray,List.getElem_cons_zero,List.setIfInBounds_toArray,List.set_cons_zero,List.set_cons_succ]
  refine wpAnyH_take (i:=1) (v:=.int .i64 (cw:Int)) rfl (by kernel_rfl) (by kernel_rfl) (by kernel_rfl) (fun _ _ _ h=>h) (Or.inl ⟨by rfl,?_⟩) HS0 ?_
  ·intro w' hS
   obtain⟨s0,s1,s2,s3,s4,s5⟩:=hS
   go_simp
  simp only [Act.put,List.getElem_toArray,List.getElem_cons_zero,List.getElem_cons_succ,List.setIfInBounds_toArray,List.set_cons_zero,List.set_cons_succ]
  refine wpAnyH_take (i:=2) (v:=.pointer (some ⟨X,2,none⟩)) rfl (by kernel_rfl) (by kernel_rfl) (by kernel_rfl) (fun _ _ _ h=>h) (Or.inl ⟨by rfl,?_⟩) HS0 ?_
  ·intro w' hS
   obtain⟨s0,s1,s2,s3,s4,s5⟩:=hS
   go_simp
  simp only [Act.put,List.getElem_toArray,List.getElem_cons_zero,List.getElem_cons_succ,List.setIfInBounds_toArray,List.set_cons_zero,List.set_cons_succ]
  refine wpAnyH_take (i:=3) (v:=.int .i64 c) rfl (by kernel_rfl) (by kernel_rfl) (by kernel_rfl) (fun _ _ _ h=>h) (Or.inl ⟨by rfl,?_⟩) HS0 ?_
  ·intro w' hS
   obtain⟨s0,s1,s2,s3,s4,s5⟩:=hS
   go_simp
  simp only [Act.put,List.getElem_toArray,List.getElem_cons_zero,List.getElem_cons_succ,List.setIfInBounds_toArray,List.set_cons_zero,List.set_cons_succ]
  refine wpAnyH_take (i:=4) (v:=.pointer (some ⟨X,3,none⟩)) rfl (by kernel_rfl) (by kernel_rfl) (by kernel_rfl) (fun _ _ _ h=>h) (Or.inl ⟨by rfl,?_⟩) HS0 ?_
  ·intro w' hS
   obtain⟨s0,s1,s2,s3,s4,s5⟩:=hS
   go_simp
  simp only [Act.put,List.getElem_toArray,List.getElem_cons_zero,List.getElem_cons_succ,List.setIfInBounds_toArray,List.set_cons_zero,List.set_cons_succ]
  refine wpAnyH_take (i:=5) (v:=.int .i64 (D:Int)) rfl (by kernel_rfl) (by kernel_rfl) (by kernel_rfl) (fun _ _ _ h=>h) (Or.inl ⟨by rfl,?_⟩) HS0 ?_
  ·intro w' hS
   obtain⟨s0,s1,s2,s3,s4,s5⟩:=hS
   go_simp
  simp only [Act.put,List.getElem_toArray,List.getElem_cons_zero,List.getElem_cons_succ,List.setIfInBounds_toArray,List.set_cons_zero,List.set_cons_succ]
  refine wpAnyH_take (i:=7) (v:=.pointer (some ⟨X,2,none⟩)) rfl (by kernel_rfl) (by kernel_rfl) (by kernel_rfl) (fun _ _ _ h=>h) (Or.inl ⟨by rfl,?_⟩) HS0 ?_
  ·intro w' hS
   obtain⟨s0,s1,s2,s3,s4,s5⟩:=hS
   go_simp
  simp only [Act.put,List.getElem_toArray,List.getElem_cons_zero,List.getElem_cons_succ,List.setIfInBounds_toArray,List.set_cons_zero,List.set_cons_succ]
  refine wpAnyH_take (i:=8) (v:=.int .i64 c) rfl (by kernel_rfl) (by kernel_rfl) (by kernel_rfl) (fun _ _ _ h=>h) (Or.inl ⟨by rfl,?_⟩) HS0 ?_
  ·intro w' hS
   obtain⟨s0,s1,s2,s3,s4,s5⟩:=hS
   go_simp
  simp only [Act.put,List.getElem_toArray,List.getElem_cons_zero,List.getElem_cons_succ,List.setIfInBounds_toArray,List.set_cons_zero,List.set_cons_succ]
  refine wpAnyH_take (i:=9) (v:=.pointer (some ⟨X,3,none⟩)) rfl (by kernel_rfl) (by kernel_rfl) (by kernel_rfl) (fun _ _ _ h=>h) (Or.inl ⟨by rfl,?_⟩) HS0 ?_
  ·intro w' hS
   obtain⟨s0,s1,s2,s3,s4,s5⟩:=hS
   go_simp
  simp only [Act.put,List.getElem_toArray,List.getElem_cons_zero,List.getElem_cons_succ,List.setIfInBounds_toArray,List.set_cons_zero,List.set_cons_succ]
  refine wpAnyH_take (i:=10) (v:=.int .i64 (D:Int)) rfl (by kernel_rfl) (by kernel_rfl) (by kernel_rfl) (fun _ _ _ h=>h) (Or.inl ⟨by rfl,?_⟩) HS0 ?_
  ·intro w' hS
   obtain⟨s0,s1,s2,s3,s4,s5⟩:=hS
   go_simp
  simp only [Act.put,List.getElem_toArray,List.getElem_cons_zero,List.getElem_cons_succ,List.setIfInBounds_toArray,List.set_cons_zero,List.set_cons_succ]
  refine wpAnyH_ready (rs:=[6]) (by kernel_rfl) (by simp) ?_
  refine AllReadyH.cons rfl (fun K hK=>?_) AllReadyH.nil
  refine if_wanted (wanted_none rfl) ?_
  simp only [List.getElem_toArray,List.getElem_cons_zero,List.getElem_cons_succ]
  go_simp
  refine (hrb W1.drew).mono ?_
  rintro e w2 ⟨rfl,hB2⟩
  have HB2:Hid (Below W1.heap.size W1 w2):=⟨hB2.1,hB2.2,hB2.3,hB2.4,hB2.5⟩
  have BX2:=hid_of ((HB2.out.block _ (block_lt HBX0.out)).trans HBX0.out)
  clear hB2 hrb
  refine hK.out _ _ (tel_cells BX2.out) (fun HS2=>?_)
  clear hK K HS0
  refine wpAnyH_ready (rs:=[11]) (by kernel_rfl) (by simp) ?_
  refine AllReadyH.cons rfl (fun K hK=>?_) AllReadyH.nil
  refine if_wanted (wanted_none rfl) ?_
  simp only [List.getElem_toArray,List.getElem_cons_zero,List.getElem_cons_succ]
  go_simp
  refine (hpu w2).mono ?_
  rintro e w3 ⟨rfl,rfl⟩
  clear hpu
  refine hK.out _ _ (tel_cells BX2.out) (fun HS3=>?_)
  clear hK K HS2
  refine wpAnyH_take (i:=12) (v:=.int .i64 (rb (cw * N) D:Int)) rfl (by kernel_rfl) (by kernel_rfl) (by kernel_rfl) (fun _ _ _ h=>h) (Or.inl ⟨by rfl,?_⟩) HS3 ?_
  ·intro w' hS
   obtain⟨s0,s1,s2,s3,s4,s5⟩:=hS
   go_simp
  simp only [Act.put,List.getElem_toArray,List.getElem_cons_zero,List.getElem_cons_succ,List.setIfInBounds_toArray,List.set_cons_zero,List.set_cons_succ]
  refine wpAnyH_take (i:=13) (v:=.int .i64 (unitN N D:Int)) rfl (by kernel_rfl) (by kernel_rfl) (by kernel_rfl) (fun _ _ _ h=>h) (Or.inl ⟨by rfl,?_⟩) HS3 ?_
  ·intro w' hS
   obtain⟨s0,s1,s2,s3,s4,s5⟩:=hS
   go_simp
  simp only [Act.put,List.getElem_toArray,List.getElem_cons_zero,List.getElem_cons_succ,List.setIfInBounds_toArray,List.set_cons_zero,List.set_cons_succ]
  refine wpAnyH_done (by kernel_rfl) ?_ _
  clear k0 k1 k2 k3 k4 lx HS3
  have hz0:Hid (w.heap.size+1≤w3.heap.size):=by
   show _≤_
   have:=HB2.out.size
   have:=block_lt HBX0.out
   have:=HXE.out
   omega
  have HBW:Hid (Below w.heap.size w w3):=bnext HBX.out HB2.out
  obtain⟨nb,hnbE⟩:∃ nb,nb=rb (cw * N) D:=⟨_,rfl⟩
  have HNBE:=hid_of hnbE
  have hnb2:nb≤200:=by rw [hnbE]; exact hnb
  rw[← hnbE]
  clear hnbE hnb
  have hmk1:=make_bytes12 w3.drew nb (by omega)
  have hmk2:=make_bytes12 (w3.alloc (.cells (madeCells #[Value.int .u8 0] nb) 5)).drew nb (by omega)
  have HOK:Hid (∀ R A,(R=w3.heap.size∧A=w3.heap.size+1∨R=w3.heap.size+1∧A=w3.heap.size)→TelM w ((w3.alloc (.cells (madeCells #[Value.int .u8 0] nb) 5)).alloc (.cells (madeCells #[Value.int .u8 0] nb) 5)).drew base G NT cb off h0 f way (cw * N) D (unitN N D) 0 R A):=fun R A hRA=>by
   have b2:Below (w3.alloc (.cells (madeCells #[Value.int .u8 0] nb) 5)).heap.size (w3.alloc (.cells (madeCells #[Value.int .u8 0] nb) 5)) ((w3.alloc (.cells (madeCells #[Value.int .u8 0] nb) 5)).alloc (.cells (madeCells #[Value.int .u8 0] nb) 5)).drew:=(bstart (w3.alloc (.cells (madeCells #[Value.int .u8 0] nb) 5)) (.cells (madeCells #[Value.int .u8 0] nb) 5)).drew
   have m1:BFn ((w3.alloc (.cells (madeCells #[Value.int .u8 0] nb) 5)).alloc (.cells (madeCells #[Value.int .u8 0] nb) 5)).drew (w.heap.size+1) w3.heap.size nb nb (fun _=>0):=(BFn.made (base:=w.heap.size+1) w3 nb (by unfold maxLen; omega) hz0.out).called b2
   have m2:BFn ((w3.alloc (.cells (madeCells #[Value.int .u8 0] nb) 5)).alloc (.cells (madeCells #[Value.int .u8 0] nb) 5)).drew (w.heap.size+1) (w3.heap.size+1) nb nb (fun _=>0):=by
    have:=(BFn.made (base:=w.heap.size+1) (w3.alloc (.cells (madeCells #[Value.int .u8 0] nb) 5)) nb (by unfold maxLen; omega) (Nat.le_trans hz0.out (bstart w3 (.cells (madeCells #[Value.int .u8 0] nb) 5)).size)).drew
    rw[show (w3.alloc (.cells (madeCells #[Value.int .u8 0] nb) 5)).heap.size=w3.heap.size+1 by simp] at this
    exact this
   have bb:Below w.heap.size w ((w3.alloc (.cells (madeCells #[Value.int .u8 0] nb) 5)).alloc (.cells (madeCells #[Value.int .u8 0] nb) 5)).drew:=(bal (bal HBW.out _) _).drew
   have hz:∀ i,i < nb→(0:Int)=bts (aboveT f (cw * N) D 0) i:=fun i hi=>by
    show (0:Int)=bts (zeroT (rb (cw * N) D)) i
    rw[bts_zero _ _ (by rw [← HNBE.out]; exact hi)]
   refine⟨⟨h0,HO.out.called bb,fun i hi=>?_,fun _ _=>rfl⟩,?_,?_,by omega,But.of_below bb⟩
   ·rw[Nat.zero_mul] at hi
    omega
   ·rw[← HNBE.out]
    rcases hRA with ⟨rfl,rfl⟩ | ⟨rfl,rfl⟩
    ·exact⟨_,m1⟩
    ·exact⟨_,m2⟩
   ·rw[← HNBE.out]
    rcases hRA with ⟨rfl,rfl⟩ | ⟨rfl,rfl⟩
    ·exact m2.congr hz
    ·exact m1.congr hz
  have BXZ:Hid (((w3.alloc (.cells (madeCells #[Value.int .u8 0] nb) 5)).alloc (.cells (madeCells #[Value.int .u8 0] nb) 5)).drew.heap[X]?=some (.cells #[.int .i64 (cw:Int),.int .i64 (H:Int),.int .i64 c,.int .i64 (D:Int),.slice a n cap] 26 (0,0))):=(Below.heap_alloc _ _ _ (by simp; have:=block_lt BX2.out; omega)).trans ((Below.heap_alloc _ _ _ (block_lt BX2.out)).trans BX2.out)
  go_wp2_with fail
  refine wp_region_held (S:=fun _=>True) (by kernel_rfl) ?_
  show wpAnyH _ _ _ _ _ _ _ _ w3.drew
  refine wpAnyH_take (i:=0) (v:=.int .i64 (nb:Int)) rfl (by kernel_rfl) (by kernel_rfl) (by kernel_rfl) (fun _ _ _ h=>h) (Or.inl ⟨by rfl,?_⟩) trivial ?_
  ·intro w' _
   go_simp
  simp only [Act.put,List.getElem_toArray,List.getElem_cons_zero,List.setIfInBounds_toArray,List.set_cons_zero,List.set_cons_succ]
  refine wpAnyH_take (i:=2) (v:=.int .i64 (nb:Int)) rfl (by kernel_rfl) (by kernel_rfl) (by kernel_rfl) (fun _ _ _ h=>h) (Or.inl ⟨by rfl,?_⟩) trivial ?_
  ·intro w' _
   go_simp
  simp only [Act.put,List.getElem_toArray,List.getElem_cons_zero,List.getElem_cons_succ,List.setIfInBounds_toArray,List.set_cons_zero,List.set_cons_succ]
  refine wpAnyH_ready (rs:=[1,3]) (by kernel_rfl) (by simp) ?_
  refine AllReadyH.cons rfl (fun K hK=>?_) (AllReadyH.cons rfl (fun K hK=>?_) AllReadyH.nil)
  ·refine if_wanted (wanted_none rfl) ?_
   simp only [List.getElem_toArray,List.getElem_cons_zero,List.getElem_cons_succ]
   go_simp
   refine hK.out _ _ trivial (fun _=>?_)
   clear hK K
   refine wpAnyH_take (i:=4) (v:=.slice (some ⟨w3.heap.size,0,none⟩) nb nb) rfl (by kernel_rfl) (by kernel_rfl) (by kernel_rfl) (fun _ _ _ h=>h) (Or.inl ⟨by rfl,?_⟩) trivial ?_
   ·intro w' _
    go_simp
   simp only [Act.put,List.getElem_toArray,List.getElem_cons_zero,List.getElem_cons_succ,List.setIfInBounds_toArray,List.set_cons_zero,List.set_cons_succ]
   refine wpAnyH_ready (rs:=[3]) (by kernel_rfl) (by simp) ?_
   refine AllReadyH.cons rfl (fun K hK=>?_) AllReadyH.nil
   refine if_wanted (wanted_none rfl) ?_
   simp only [List.getElem_toArray,List.getElem_cons_zero,List.getElem_cons_succ]
   go_simp
   refine hK.out _ _ trivial (fun _=>?_)
   clear hK K
   refine wpAnyH_take (i:=5) (v:=.slice (some ⟨w3.heap.size+1,0,none⟩) nb nb) rfl (by kernel_rfl) (by kernel_rfl) (by kernel_rfl) (fun _ _ _ h=>h) (Or.inl ⟨by rfl,?_⟩) trivial ?_
   ·intro w' _
    go_simp
   simp only [Act.put,List.getElem_toArray,List.getElem_cons_zero,List.getElem_cons_succ,List.setIfInBounds_toArray,List.set_cons_zero,List.set_cons_succ]
   refine wpAnyH_done (by kernel_rfl) ?_ _
   clear hmk1 hmk2
   go_wp2_with fail
   go_step3
   rename_i K1 hK1
   obtain rfl:=HXE.out
   obtain rfl:=HNBE.out
   exact hK1 _ _ (HGO.out _ _ (telJ_mk cw H N D n cap c way a f h0 base G NT cb off tv w (y:=0) (at_:=0) (R:=w3.heap.size) (A:=w3.heap.size+1) _ _ _ _ _ _ _ _ _ _ _ _ _ _ _ _ _ _ _ _ _ _ _ _ _ _ _ _ _ _ _ _ _ _ _ _ _ _ _ _ _ _ _ _ _ _ _ _ _ _ _ _ _ _ _ _ _ _ _ _ (Nat.zero_le _) (by rw [Nat.zero_mul]) BXZ.out (HOK.out _ _ (.inl ⟨rfl,rfl⟩))))
  ·refine if_wanted (wanted_none rfl) ?_
   simp only [List.getElem_toArray,List.getElem_cons_zero,List.getElem_cons_succ]
   go_simp
   refine hK.out _ _ trivial (fun _=>?_)
   clear hK K
   refine wpAnyH_ready (rs:=[1]) (by kernel_rfl) (by simp) ?_
   refine AllReadyH.cons rfl (fun K hK=>?_) AllReadyH.nil
   refine if_wanted (wanted_none rfl) ?_
   simp only [List.getElem_toArray,List.getElem_cons_zero,List.getElem_cons_succ]
   go_simp
   refine hK.out _ _ trivial (fun _=>?_)
   clear hK K
   refine wpAnyH_take (i:=4) (v:=.slice (some ⟨w3.heap.size+1,0,none⟩) nb nb) rfl (by kernel_rfl) (by kernel_rfl) (by kernel_rfl) (fun _ _ _ h=>h) (Or.inl ⟨by rfl,?_⟩) trivial ?_
   ·intro w' _
    go_simp
   simp only [Act.put,List.getElem_toArray,List.getElem_cons_zero,List.getElem_cons_succ,List.setIfInBounds_toArray,List.set_cons_zero,List.set_cons_succ]
   refine wpAnyH_take (i:=5) (v:=.slice (some ⟨w3.heap.size,0,none⟩) nb nb) rfl (by kernel_rfl) (by kernel_rfl) (by kernel_rfl) (fun _ _ _ h=>h) (Or.inl ⟨by rfl,?_⟩) trivial ?_
   ·intro w' _
    go_simp
   simp only [Act.put,List.getElem_toArray,List.getElem_cons_zero,List.getElem_cons_succ,List.setIfInBounds_toArray,List.set_cons_zero,List.set_cons_succ]
   refine wpAnyH_done (by kernel_rfl) ?_ _
   clear hmk1 hmk2
   go_wp2_with fail
   go_step3
   rename_i K1 hK1
   obtain rfl:=HXE.out
   obtain rfl:=HNBE.out
   exact hK1 _ _ (HGO.out _ _ (telJ_mk cw H N D n cap c way a f h0 base G NT cb off tv w (y:=0) (at_:=0) (R:=w3.heap.size+1) (A:=w3.heap.size) _ _ _ _ _ _ _ _ _ _ _ _ _ _ _ _ _ _ _ _ _ _ _ _ _ _ _ _ _ _ _ _ _ _ _ _ _ _ _ _ _ _ _ _ _ _ _ _ _ _ _ _ _ _ _ _ _ _ _ _ (Nat.zero_le _) (by rw [Nat.zero_mul]) BXZ.out (HOK.out _ _ (.inr ⟨rfl,rfl⟩))))
end Go.Proofs.YtcbbcadfolgioaaDoor
