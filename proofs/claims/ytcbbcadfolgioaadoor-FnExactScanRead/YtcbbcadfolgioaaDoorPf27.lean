/-
  Texts of the proof, put together.
-/
import Derived.Test.YtcbbcadfolgioaaDoorPf26
import Derived.Test.YtcbbcadfolgioaaDoorPf25
namespace Go.Proofs.YtcbbcadfolgioaaDoor
open Go.RowKit Go.Joins OutMath TakeMath RastMath FiltMath ScanMath
theorem copy_fn {w:World} {base g n cap:Nat} {f:Nat→Int} (h:BFn w base g n cap f) (s:ByteArray) (hs:n≤s.size):∃ w1,(∀ ty,(Builtin.copy_ #[22,9] ty #[.slice (some ⟨g,0,none⟩) n cap,.string s]).run Tryd.prog w=.ok (goInt n) w1)∧BFn w1 base g n cap (bts s)∧But g w w1:=by
 obtain⟨i0,hi0,-,hz1,-⟩:=info_parts info_u812
 have hsz:(s.extract 0 n).size=n:=by have:=cut_size s 0 n (by omega); rw [Nat.zero_add] at this; exact this
 have hl:(bytesOf (s.extract 0 n)).length=n:=by rw [bytesOf_length,hsz]
 obtain⟨h1,h2⟩:=BFn.cells (base:=base) (g:=g) (n:=n) (cap:=cap) (bytesOf (s.extract 0 n)) 0 w f h (by rw [hl]; omega)
 have hst:=run_storeCells_cells (P:=Tryd.prog) g 0 ((bytesOf (s.extract 0 n)).map (Value.int .u8)) 0 w (fun j hj=>by
   rw[List.length_map,hl] at hj
   rw[show 0+0+j=j by omega,h.cell j hj]
   rfl) (fun j hj=>by
   rw[List.length_map,hl] at hj
   rw[show 0+0+j=j by omega]
   exact h.free j hj) (fun v hv=>by
   obtain⟨x,-,rfl⟩:=List.mem_map.mp hv
   rfl)
 have hm:Nat.min s.size n=n:=Nat.min_eq_right hs
 have hc:List.take n (s.data.map fun b=>Value.int .u8 (b.toNat:Int)).toList=(bytesOf (s.extract 0 n)).map (Value.int .u8):=by
  unfold bytesOf
  rw[ByteArray.data_extract,Array.toList_map,List.map_map,Array.toList_extract,← List.map_take]
  simp[List.extract]
  rfl
 refine⟨_,fun ty=>?_,h1.congr (fun i hi=>?_),h2⟩
 ·have e:(Builtin.firstCells 1 n (.string s)).run Tryd.prog w=.ok ((s.extract 0 n).data.map fun b=>Value.int .u8 (b.toNat:Int)) w:=rfl
  simp only [Builtin.copy_]
  simp[run_underlying Tryd.underlying22,Builtin.lenOf,sizeOf,typeInfo,hi0,hz1,hm,e,Result.andThen]
  rw[← Array.toList_map,hc,hst]
 ·have e:=laidAt_in f 0 (bytesOf (s.extract 0 n)) i (by rw [hl]; exact hi)
  rw[Nat.zero_add] at e
  rw[e,bts_of13 _ _ (by rw [hsz]; exact hi)]
  have:=bts_cut s 0 n i (by omega) hi
  rw[Nat.zero_add,Nat.zero_add] at this
  exact this
def ReaM (w w':World) (H base S n cap:Nat) (t:ByteArray) (s D u y R A:Nat):Prop:=
 (H=0∨∃ h,IOwn w' base S n cap h∧∀ i,i < y * s→h i=rsmp t 0 s D u i)∧(∃ hr,BFn w' (w.heap.size+1) R (rb s D) (rb s D) hr)∧BFn w' (w.heap.size+1) A (rb s D) (rb s D) (bts (rabove t 0 (rb s D) u y))∧R≠A∧But S w w'
def ReaJ (cw H N D n cap:Nat) (c:Int) (a:Option Addr) (_h0:Nat→Int) (base S:Nat) (t:ByteArray) (w:World) (act:Act) (w':World):Prop:=
 ∃ (y at_ R A:Nat) (U:Nat→Value),act={ tmps:=#[.agg #[.int .i64 (cw:Int),.int .i64 (H:Int),.int .i64 c,.int .i64 (D:Int),.slice a n cap],.string t,.pointer (some ⟨w.heap.size,0,none⟩),undef,.bool false,.int .i64 (rb (cw * N) D:Int),.int .i64 (unitN N D:Int),.slice (some ⟨R,0,none⟩) (rb (cw * N) D) (rb (cw * N) D),.slice (some ⟨A,0,none⟩) (rb (cw * N) D) (rb (cw * N) D),.int .i64 (y:Int),.int .i64 (at_:Int),U 11,U 12,U 13,U 14,U 15,U 16,U 17,U 18,U 19,U 20,U 21,U 22,U 23,U 24,U 25,U 26,U 27,U 28,U 29,U 30,U 31,U 32,U 33,U 34,U 35,U 36,U 37,U 38,U 39,U 40,U 41,U 42,U 43,U 44,U 45,U 46,U 47,U 48,U 49,U 50,U 51,U 52,U 53,U 54,U 55,U 56,U 57,U 58,U 59,U 60,U 61,U 62,U 63,U 64],defers:=[] }∧y≤H∧at_=y * (rb (cw * N) D+1)∧w'.heap[w.heap.size]?=some (.cells #[.int .i64 (cw:Int),.int .i64 (H:Int),.int .i64 c,.int .i64 (D:Int),.slice a n cap] 26 (0,0))∧ReaM w w' H base S n cap t (cw * N) D (unitN N D) y R A∧∀ j,j < y→bts t (j * (rb (cw * N) D+1))≤4
theorem reaJ_mk (cw H N D n cap:Nat) (c:Int) (a:Option Addr) (h0:Nat→Int) (base S:Nat) (t:ByteArray) (w:World) {w':World} {y at_ R A:Nat} (u11 u12 u13 u14 u15 u16 u17 u18 u19 u20 u21 u22 u23 u24 u25 u26 u27 u28 u29 u30 u31 u32 u33 u34 u35 u36 u37 u38 u39 u40 u41 u42 u43 u44 u45 u46 u47 u48 u49 u50 u51 u52 u53 u54 u55 u56 u57 u58 u59 u60 u61 u62 u63 u64:Value) (hy:y≤H) (ha:at_=y * (rb (cw * N) D+1)) (hb:w'.heap[w.heap.size]?=some (.cells #[.int .i64 (cw:Int),.int .i64 (H:Int),.int .i64 c,.int .i64 (D:Int),.slice a n cap] 26 (0,0))) (hS:ReaM w w' H base S n cap t (cw * N) D (unitN N D) y R A) (hk:∀ j,j < y→bts t (j * (rb (cw * N) D+1))≤4):ReaJ cw H N D n cap c a h0 base S t w { tmps:=#[.agg #[.int .i64 (cw:Int),.int .i64 (H:Int),.int .i64 c,.int .i64 (D:Int),.slice a n cap],.string t,.pointer (some ⟨w.heap.size,0,none⟩),undef,.bool false,.int .i64 (rb (cw * N) D:Int),.int .i64 (unitN N D:Int),.slice (some ⟨R,0,none⟩) (rb (cw * N) D) (rb (cw * N) D),.slice (some ⟨A,0,none⟩) (rb (cw * N) D) (rb (cw * N) D),.int .i64 (y:Int),.int .i64 (at_:Int),u11,u12,u13,u14,u15,u16,u17,u18,u19,u20,u21,u22,u23,u24,u25,u26,u27,u28,u29,u30,u31,u32,u33,u34,u35,u36,u37,u38,u39,u40,u41,u42,u43,u44,u45,u46,u47,u48,u49,u50,u51,u52,u53,u54,u55,u56,u57,u58,u59,u60,u61,u62,u63,u64],defers:=[] } w':=
 ⟨y,at_,R,A,fun i=>[u11,u12,u13,u14,u15,u16,u17,u18,u19,u20,u21,u22,u23,u24,u25,u26,u27,u28,u29,u30,u31,u32,u33,u34,u35,u36,u37,u38,u39,u40,u41,u42,u43,u44,u45,u46,u47,u48,u49,u50,u51,u52,u53,u54,u55,u56,u57,u58,u59,u60,u61,u62,u63,u64].getD (i - 11) undef,rfl,hy,ha,hb,hS,hk⟩
theorem reaM_next {w wr w2 w3 w4 w6:World} {H base S n cap:Nat} {t:ByteArray} {s D u y R A:Nat} {h h':Nat→Int} (_hs:1≤s) (hwS:S < w.heap.size)
  (hh:∀ i,i < y * s→h i=rsmp t 0 s D u i) (hA:BFn wr (w.heap.size+1) A (rb s D) (rb s D) (bts (rabove t 0 (rb s D) u y))) (hRA:R≠A) (hBw:But S w wr)
  (b2:But R wr w2) (b3:But R w2 w3) (hR3:BFn w3 (w.heap.size+1) R (rb s D) (rb s D) (bts (rrow t 0 (rb s D) u y))) (b4:Below w3.heap.size w3 w4)
  (hO6:IOwn w6 base S n cap h') (hn6:∀ i,i < s→h' (y * s+i)=smp (rrow t 0 (rb s D) u y) D i) (ho6:∀ i,i < y * s∨y * s+s≤i→h' i=h i) (b6:But S w4 w6):
  ReaM w w6 H base S n cap t s D u (y+1) A R:=by
 have hRb:=Own.base_le hR3
 have hAb:=Own.base_le hA
 have hRS:R≠S:=by omega
 have hAS:A≠S:=by omega
 have hA4:BFn w4 (w.heap.size+1) A (rb s D) (rb s D) (bts (rabove t 0 (rb s D) u y)):=((hA.but b2 (Ne.symm hRA)).but b3 (Ne.symm hRA)).called b4
 have hR4:=hR3.called b4
 have step:∀ {x y:World},But S w x→But R x y→But S w y:=fun h k=>⟨k.os.trans h.os,k.tape.trans h.tape,k.output.trans h.output,Nat.le_trans h.size k.size,fun i hi hg=>(k.block i (Nat.lt_of_lt_of_le hi h.size) (by omega)).trans (h.block i hi hg)⟩
 refine⟨.inr ⟨h',hO6,fun i hi=>?_⟩,⟨_,hA4.but b6 hAS⟩,hR4.but b6 hRS,Ne.symm hRA,((step (step hBw b2) b3).next b4).trans b6⟩
 rw[Nat.add_mul,Nat.one_mul] at hi
 by_cases e:i < y * s
 ·rw[ho6 i (.inl e),hh i e]
 ·obtain⟨k,hk⟩:∃ k,i=y * s+k:=⟨i - y * s,by omega⟩
  subst hk
  rw[hn6 k (by omega),rsmp_at t 0 s D u y (by omega)]
set_option maxRecDepth 100000 in
set_option maxHeartbeats 6400000 in
theorem readLines_any (cw H N D n cap:Nat) (c:Int) (a:Option Addr) (h0:Nat→Int) (base S:Nat) (t:ByteArray) (w:World) (hcw:cw≤24) (hH:H≤24) (h1:1≤H→1≤cw) (hd:DepthR c (D:Int)) (hNc:chan c=(N:Int)) (hn:n=H * (cw * N)) (hcap:n≤cap) (hcm:cap≤maxLen)
  (hO:H=0∨a=some ⟨S,0,none⟩∧IOwn w base S n cap h0) (ht:H * (rb (cw * N) D+1)≤t.size) (htm:t.size≤1048576):
  Calls Tryd.prog 46 #[.agg #[.int .i64 (cw:Int),.int .i64 (H:Int),.int .i64 c,.int .i64 (D:Int),.slice a n cap],.string t] w fun e w'=>∃ b,e=.returned (.bool b)∧(b=true↔∀ j,j < H→bts t (j * (rb (cw * N) D+1))≤4)∧(b=true→H=0∨∃ h,IOwn w' base S n cap h∧∀ i,i < n→h i=rsmp t 0 (cw * N) D (unitN N D) i)∧But S w w':=by
 have hN4:N≤4:=by have:=(chan_range c).2; omega
 have h5:=five_range (depth_five hd)
 have hD16:D≤16:=by omega
 have hs96:cw * N≤96:=Nat.mul_le_mul hcw hN4
 have hnb:rb (cw * N) D≤200:=rb_small hs96 hD16
 have hur:=unitN_range hN4 hD16
 have hwf:∀ x:Int,-100000≤x→x≤100000→(Lit.int .i64 x).wf=true:=fun x h1 h2=>by
  simp[Lit.wf,IntKind.min,IntKind.max,IntKind.signed,IntKind.bits]
  omega
 have hcb:-100000≤c∧c≤100000:=by
  have:=chan_pos hd
  unfold chan at this
  repeat' split at this
  all_goals omega
 have hrb:=fun W=>rowBytes_answer (cw:Int) c (D:Int) W (hwf _ (by omega) (by omega)) (hwf c hcb.1 hcb.2) (hwf _ (by omega) (by omega))
 rw[rowB_any cw N D c hcw hd hNc] at hrb
 have hpu:=fun W=>pixelUnit_any c N D W hNc hN4 hD16
 have HO:=hid_of hO
 have HN:=hid_of hn
 have HD:=hid_of hd
 have HNC:=hid_of hNc
 have HH1:=hid_of h1
 have HT:=hid_of ht
 have HX:Hid ((w.alloc (.cells #[.int .i64 (cw:Int),.int .i64 (H:Int),.int .i64 c,.int .i64 (D:Int),.slice a n cap] 26)).heap[w.heap.size]?=some (.cells #[.int .i64 (cw:Int),.int .i64 (H:Int),.int .i64 c,.int .i64 (D:Int),.slice a n cap] 26 (0,0))):=heap_alloc_new w _
 have HBX:=hid_of (bstart w (.cells #[.int .i64 (cw:Int),.int .i64 (H:Int),.int .i64 c,.int .i64 (D:Int),.slice a n cap] 26))
 clear hO hn hd hNc h1 ht hwf
 go_enter Tryd.func46,Tryd.ntmps46
 go_wp2_with fail
 generalize w.alloc (.cells #[.int .i64 (cw:Int),.int .i64 (H:Int),.int .i64 c,.int .i64 (D:Int),.slice a n cap] 26)=W1 at HX HBX ⊢
 refine wp_scope_from 0 (ReaJ cw H N D n cap c a h0 base S t w) (fun a' _=>H - (intOf (a'.tmps.getD 9 undef)).toNat) rfl ?_ ?_
 ·rintro a' wr ⟨y,at_,R,A,U,rfl,hy,hat,hbx,hS,hkk⟩
  clear hrb hpu HX HBX
  generalize hX:w.heap.size=X at hbx ⊢
  have HXE:=hid_of hX
  clear hX
  have k0:wr.cell? ⟨X,0,none⟩=some (.int .i64 (cw:Int)):=(cell_of_block hbx 0).trans rfl
  have k1:wr.cell? ⟨X,1,none⟩=some (.int .i64 (H:Int)):=(cell_of_block hbx 1).trans rfl
  have k2:wr.cell? ⟨X,2,none⟩=some (.int .i64 c):=(cell_of_block hbx 2).trans rfl
  have k3:wr.cell? ⟨X,3,none⟩=some (.int .i64 (D:Int)):=(cell_of_block hbx 3).trans rfl
  have k4:wr.cell? ⟨X,4,none⟩=some (.slice a n cap):=(cell_of_block hbx 4).trans rfl
  have lx:=block_lt hbx
  have HBX:=hid_of hbx
  have HAT:=hid_of hat
  have HS:=hid_of hS
  have HKK:=hid_of hkk
  clear hbx hat hS hkk
  by_cases hlt:y < H
  ·have e1:((y:Int) == (H:Int))=false:=beq_no1 (by omega)
   have e2:decide ((y:Int)=(H:Int))=false:=decide_eq_false (by omega)
   obtain⟨hM0,⟨hr,hR⟩,hA,hRA,hBw⟩:=HS.out
   obtain⟨h,hOr,hh⟩:∃ h,IOwn wr base S n cap h∧∀ i,i < y * (cw * N)→h i=rsmp t 0 (cw * N) D (unitN N D) i:=by
    rcases hM0 with q | q
    ·omega
    ·exact q
   obtain⟨haE,hO0⟩:a=some ⟨S,0,none⟩∧IOwn w base S n cap h0:=by
    rcases HO.out with q | q
    ·omega
    ·exact q
   have hSw:S < w.heap.size:=hO0.lt
   subst haE
   have hcw1:1≤cw:=HH1.out (by omega)
   have hN1:1≤N:=by
    have h1:=chan_pos HD.out
    have h2:=HNC.out
    omega
   obtain⟨s,hs⟩:∃ s,s=cw * N:=⟨_,rfl⟩
   have hs1:1≤s:=by rw [hs]; exact Nat.mul_le_mul hcw1 hN1
   have hsi:(cw:Int) * chan c=(s:Int):=by rw [HNC.out,hs]; simp
   rw[← hs] at hs96 hR hA hh
   have hyn:y * s+s≤n:=by
    have:=Nat.mul_le_mul_right s (show y+1≤H by omega)
    rw[Nat.add_mul,Nat.one_mul] at this
    rw[HN.out,← hs]
    exact this
   have hnm:n≤100000:=by
    have:=Nat.mul_le_mul hH hs96
    rw[HN.out,← hs]
    omega
   have hrow:=fun W=>row_at (cw:Int) (H:Int) c (D:Int) S 0 n cap s y W hs1 hs96 hsi hcap hcm (by omega) hyn hnm
   obtain⟨nb,hnbE⟩:∃ nb,nb=rb (cw * N) D:=⟨_,rfl⟩
   have hnbs:nb=rb s D:=by rw [hnbE,hs]
   have hRb:=Own.base_le hR
   have hAb:=Own.base_le hA
   have haty:at_=y * nb+y:=by rw [HAT.out,hnbE,Nat.mul_add,Nat.mul_one]
   have hatB:at_+1+nb≤t.size:=by
    have h1:=HT.out
    have h2:=Nat.mul_le_mul_right (nb+1) (show y+1≤H by omega)
    rw[← hnbE] at h1
    rw[Nat.add_mul,Nat.one_mul] at h2
    have h3:y * (nb+1)=y * nb+y:=by rw [Nat.mul_add,Nat.mul_one]
    omega
   have hnb1:1≤nb:=by
    rw[hnbs]
    unfold rb
    have:=Nat.mul_le_mul hs1 (show 1≤D by omega)
    omega
   have hnb2:nb≤200:=by rw [hnbE]; exact hnb
   have hal:at_ < t.size:=by omega
   have HBY:Hid ((t[at_]'hal).toNat=byteAt t at_):=byteAt_get t at_ hal
   obtain⟨B0,hB0⟩:∃ B:Nat,B=(t[at_]'hal).toNat:=⟨_,rfl⟩
   have hBb:B0 < 256:=by rw [hB0]; exact UInt8.toNat_lt _
   have HKB:Hid (bts t (y * (rb (cw * N) D+1))=(B0:Int)):=by
    show _=_
    rw[← HAT.out]
    unfold bts
    rw[← HBY.out,← hB0]
   have r0:=hB0.symm
   have xa1:(at_:Int) < (t.size:Int):=by omega
   have wB:IntKind.i64.wrap (B0:Int)=(B0:Int):=by rw [IntKind.wrap_i64]; omega
   have hik:=isFilterKind_any (B0:Int)
   rw[← hnbE]
   have HSE:=hid_of hs
   have HNBE:=hid_of hnbE
   have HNBS:=hid_of hnbs
   have HSI:=hid_of hsi
   have HRr:=hid_of (show BFn wr (w.heap.size+1) R nb nb hr by rw [hnbs]; exact hR)
   have HAr:=hid_of hA
   have HBw:=hid_of hBw
   have HOr:=hid_of hOr
   have HHr:=hid_of hh
   have HHA:=hid_of haty
   have hXR:X≠R:=by have:=HXE.out; omega
   have hXA:X≠A:=by have:=HXE.out; omega
   have hXS:X≠S:=by have:=HXE.out; omega
   have hRS:R≠S:=by omega
   have hAS:A≠S:=by omega
   clear hB0 hs hnbE hnbs hsi hR hA hBw hOr hh haty hM0 HH1 hO0
   by_cases hk4:B0≤4
   ·rw[decide_eq_true (show (0:Int)≤(B0:Int)∧(B0:Int)≤4 by omega)] at hik
    have ha1s:(t.extract (at_+1) t.size).size=t.size - (at_+1):=by simp
    obtain⟨sx,hsx⟩:∃ sx,sx=t.extract (at_+1) t.size:=⟨_,rfl⟩
    have hsxs:nb≤sx.size:=by rw [hsx,ha1s]; omega
    have HSXB:Hid (∀ i,i < nb→bts sx i=bts (t.extract (at_+1) (at_+1+nb)) i):=fun i hi=>by
     have h1:=bts_cut t (at_+1) (t.size - (at_+1)) i (by omega) (by omega)
     rw[show at_+1+(t.size - (at_+1))=t.size by omega,← hsx] at h1
     rw[h1,bts_cut t (at_+1) nb i (by omega) hi]
    have HSX:=hid_of hsx
    have ne1:¬ t.size=at_+1:=by omega
    have xa2:(at_:Int)+1≤(t.size:Int):=by omega
    have rsx:t.extract (at_+1) t.size=sx:=hsx.symm
    clear hsx ha1s
    obtain⟨w2,hcp,hR2,b2⟩:=copy_fn HRr.out sx hsxs
    have HR2:=hid_of (hR2.congr HSXB.out)
    have HB2:=hid_of b2
    have HA2:=hid_of ((show BFn wr (w.heap.size+1) A nb nb (bts (rabove t 0 (rb s D) (unitN N D) y)) by rw [HNBS.out]; exact HAr.out).but b2 (Ne.symm hRA))
    clear hR2 b2
    have hun:=unfilter_any (B0:Int) (by omega) (bts (t.extract (at_+1) (at_+1+nb))) (bts (rabove t 0 (rb s D) (unitN N D) y)) (unitN N D) nb (w.heap.size+1) R nb A nb w2 hur hnb2 (bts_byte _) (bts_byte _) HR2.out HA2.out.at (Ne.symm hRA)
    go_wp2_with fail
    refine (hik _).mono ?_
    rintro e w1 ⟨rfl,rfl⟩
    go_wp2_with fail
    refine hun.mono ?_
    rintro e w3 ⟨rfl,h3,hR3,hh3,-,-,hB3⟩
    have HRR:Hid (rrow t 0 (rb s D) (unitN N D) y=unfT (B0:Int) (t.extract (at_+1) (at_+1+nb)) (rabove t 0 (rb s D) (unitN N D) y) (unitN N D)):=by
     show _=_
     rw[rrow_form,Nat.zero_add,← HNBS.out]
     have e1:y * (nb+1)=at_:=by rw [HAT.out,HNBE.out]
     have e2:bts t at_=(B0:Int):=by rw [← HKB.out,HAT.out]
     rw[e1,e2]
    have hcs:(t.extract (at_+1) (at_+1+nb)).size=nb:=cut_size t _ _ hatB
    have HR3:Hid (BFn w3 (w.heap.size+1) R (rb s D) (rb s D) (bts (rrow t 0 (rb s D) (unitN N D) y))):=by
     show BFn _ _ _ _ _ _
     rw[← HNBS.out,HNBS.out]
     refine (show BFn w3 (w.heap.size+1) R (rb s D) (rb s D) h3 by rw [← HNBS.out]; exact hR3).congr fun i hi=>?_
     rw[← HNBS.out] at hi
     rw[hh3 i hi,HRR.out]
     unfold unfT
     rw[bts_str (unfL_byte _ _ _ _ _) i (by rw [unfL_length,hcs]; exact hi),hcs]
    have HRZ:Hid ((rrow t 0 (rb s D) (unitN N D) y).size=nb):=by
     show _=_
     rw[HRR.out,unfT_size,hcs]
    have HB3:=hid_of hB3
    have BX3:=hid_of ((hB3.block _ (Nat.lt_of_lt_of_le (block_lt HBX.out) HB2.out.size) hXR).trans ((HB2.out.block _ (block_lt HBX.out) hXR).trans HBX.out))
    have HO3:=hid_of ((HOr.out.keep (HB2.out.block _ HOr.out.lt (Ne.symm hRS))).keep (hB3.block _ (Nat.lt_of_lt_of_le HOr.out.lt HB2.out.size) (Ne.symm hRS)))
    clear hun hh3 hR3 hB3 hcp hcs k0 k1 k2 k3 k4 lx
    go_wp2_with fail
    refine wp_region_held (S:=fun u=>u.cell? ⟨X,0,none⟩=some (.int .i64 (cw:Int))∧u.cell? ⟨X,1,none⟩=some (.int .i64 (H:Int))∧u.cell? ⟨X,2,none⟩=some (.int .i64 c)∧u.cell? ⟨X,3,none⟩=some (.int .i64 (D:Int))∧u.cell? ⟨X,4,none⟩=some (.slice (some ⟨S,0,none⟩) n cap)∧X < u.heap.size) (by kernel_rfl) ?_
    show wpAnyH _ _ _ _ _ _ _ _ w3.drew
    have HS0:=tel_cells (W:=w3.drew) BX3.out
    refine wpAnyH_take (i:=0) (v:=.agg #[.int .i64 (cw:Int),.int .i64 (H:Int),.int .i64 c,.int .i64 (D:Int),.slice (some ⟨S,0,none⟩) n cap]) rfl (by kernel_rfl) (by kernel_rfl) (by kernel_rfl) (fun _ _ _ h=>h) (Or.inl ⟨by rfl,?_⟩) HS0 ?_
    ·intro w' hS
     obtain⟨s0,s1,s2,s3,s4,s5⟩:=hS
     go_simp
    simp only [Act.put,List.getElem_toArray,List.getElem_cons_zero,List.setIfInBounds_toArray,List.set_cons_zero,List.set_cons_succ]
    refine wpAnyH_take (i:=1) (v:=.int .i64 (y:Int)) rfl (by kernel_rfl) (by kernel_rfl) (by kernel_rfl) (fun _ _ _ h=>h) (Or.inl ⟨by rfl,?_⟩) HS0 ?_
    ·intro w' hS
     obtain⟨s0,s1,s2,s3,s4,s5⟩:=hS
     go_simp
    simp only [Act.put,List.getElem_toArray,List.getElem_cons_zero,List.getElem_cons_succ,List.setIfInBounds_toArray,List.set_cons_zero,List.set_cons_succ]
    refine wpAnyH_take (i:=3) (v:=.slice (some ⟨R,0,none⟩) nb nb) rfl (by kernel_rfl) (by kernel_rfl) (by kernel_rfl) (fun _ _ _ h=>h) (Or.inl ⟨by rfl,?_⟩) HS0 ?_
    ·intro w' hS
     obtain⟨s0,s1,s2,s3,s4,s5⟩:=hS
     go_simp
    simp only [Act.put,List.getElem_toArray,List.getElem_cons_zero,List.getElem_cons_succ,List.setIfInBounds_toArray,List.set_cons_zero,List.set_cons_succ]
    refine wpAnyH_take (i:=4) (v:=.pointer (some ⟨X,3,none⟩)) rfl (by kernel_rfl) (by kernel_rfl) (by kernel_rfl) (fun _ _ _ h=>h) (Or.inl ⟨by rfl,?_⟩) HS0 ?_
    ·intro w' hS
     obtain⟨s0,s1,s2,s3,s4,s5⟩:=hS
     go_simp
    simp only [Act.put,List.getElem_toArray,List.getElem_cons_zero,List.getElem_cons_succ,List.setIfInBounds_toArray,List.set_cons_zero,List.set_cons_succ]
    refine wpAnyH_take (i:=5) (v:=.int .i64 (D:Int)) rfl (by kernel_rfl) (by kernel_rfl) (by kernel_rfl) (fun _ _ _ h=>h) (Or.inl ⟨by rfl,?_⟩) HS0 ?_
    ·intro w' hS
     obtain⟨s0,s1,s2,s3,s4,s5⟩:=hS
     go_simp
    simp only [Act.put,List.getElem_toArray,List.getElem_cons_zero,List.getElem_cons_succ,List.setIfInBounds_toArray,List.set_cons_zero,List.set_cons_succ]
    refine wpAnyH_ready (rs:=[2]) (by kernel_rfl) (by simp) ?_
    refine AllReadyH.cons rfl (fun K hK=>?_) AllReadyH.nil
    refine if_wanted (wanted_none rfl) ?_
    simp only [List.getElem_toArray,List.getElem_cons_zero,List.getElem_cons_succ]
    go_simp
    refine (hrow w3.drew).mono ?_
    rintro e w4 ⟨rfl,hB4⟩
    have HB4:Hid (Below w3.heap.size w3 w4):=⟨hB4.1,hB4.2,hB4.3,hB4.4,hB4.5⟩
    have BX4:=hid_of ((HB4.out.block _ (block_lt BX3.out)).trans BX3.out)
    clear hB4 hrow
    refine hK.out _ _ (tel_cells BX4.out) (fun HS2=>?_)
    clear hK K HS0
    have hp:=unpackInto_any (rrow t 0 (rb s D) (unitN N D) y) s D base S n cap (y * s) s R nb h w4 (depth_five HD.out) hs96 (by
     rw[HRZ.out,HNBS.out]
     unfold rb
     have:(((s * D+7) / 8:Nat):Int)=(((s * D:Nat):Int)+7) / 8:=by omega
     rw[this]
     simp) (HO3.out.called HB4.out) (by omega) (by
     rw[HRZ.out,HNBS.out]
     exact (HR3.out.called HB4.out).at) hRS
    rw[HRZ.out] at hp
    refine wpAnyH_ready (rs:=[6]) (by kernel_rfl) (by simp) ?_
    refine AllReadyH.cons rfl (fun K hK=>?_) AllReadyH.nil
    refine if_wanted (wanted_none rfl) ?_
    simp only [List.getElem_toArray,List.getElem_cons_zero,List.getElem_cons_succ]
    go_simp
    refine hp.mono ?_
    rintro e w6 ⟨rfl,h6,hO6,hn6,ho6,hB6⟩
    have BX6:=hid_of ((hB6.block _ (block_lt BX4.out) hXS).trans BX4.out)
    have HT6:Hid (ReaM w w6 H base S n cap t s D (unitN N D) (y+1) A R):=reaM_next hs1 hSw HHr.out HAr.out hRA HBw.out HB2.out HB3.out HR3.out HB4.out hO6 hn6 ho6 hB6
    clear hp hO6 hn6 ho6 hB6 HS2
    refine hK.out _ _ (tel_cells BX6.out) (fun _=>?_)
    clear hK K
    refine wpAnyH_done (by kernel_rfl) ?_ _
    go_wp2_with fail
    go_step3
    have e3:(y:Int)+1=((y+1:Nat):Int):=by omega
    have e4:(at_:Int)+1+(nb:Int)=((at_+1+nb:Nat):Int):=by omega
    rw[e3,e4]
    have hA1:at_+1+nb=(y+1) * (nb+1):=by
     have h3:(y+1) * (nb+1)=y * nb+y+nb+1:=by rw [Nat.add_mul,Nat.mul_add]; omega
     have:=HHA.out
     omega
    obtain rfl:=HXE.out
    obtain rfl:=HSE.out
    obtain rfl:=HNBE.out
    refine⟨rfl,reaJ_mk cw H N D n cap c (some ⟨S,0,none⟩) h0 base S t w (y:=y+1) (at_:=at_+1+rb (cw * N) D) (R:=A) (A:=R) _ _ _ _ _ _ _ _ _ _ _ _ _ _ _ _ _ _ _ _ _ _ _ _ _ _ _ _ _ _ _ _ _ _ _ _ _ _ _ _ _ _ _ _ _ _ _ _ _ _ _ _ _ _ (by omega) hA1 BX6.out HT6.out (fun j hj=>?_),?_⟩
    ·by_cases e:j=y
     ·rw[e,HKB.out]
      omega
     ·exact HKK.out j (by omega)
    ·simp[intOf]
     omega
   ·rw[decide_eq_false (show ¬ ((0:Int)≤(B0:Int)∧(B0:Int)≤4) by omega)] at hik
    go_wp2_with fail
    refine (hik _).mono ?_
    rintro e w1 ⟨rfl,rfl⟩
    go_wp2_with fail
    simp only [Exit.jump]
    go_ret
    refine⟨false,rfl,⟨fun e=>(by cases e),fun hq=>?_⟩,fun e=>(by cases e),HBw.out⟩
    have:=hq y hlt
    rw[HKB.out] at this
    omega
  ·obtain rfl:y=H:=by omega
   have e1:((y:Int) == (y:Int))=true:=beq_of1 rfl
   have e2:decide ((y:Int)=(y:Int))=true:=decide_eq_true rfl
   obtain⟨hM,-,-,-,hB⟩:=HS.out
   have HE:=hid_of hM
   have HBE:=hid_of hB
   clear hM hB HS
   go_wp2_with fail
   simp only [Exit.jump]
   go_ret
   exact⟨true,rfl,⟨fun _=>HKK.out,fun _=>rfl⟩,fun _=>HE.out.imp id (fun ⟨h,q1,q2⟩=>⟨h,q1,fun i hi=>q2 i (by rw [← HN.out]; exact hi)⟩),HBE.out⟩
 ·intro hgo
  obtain⟨X,hX⟩:∃ X,X=w.heap.size:=⟨_,rfl⟩
  have HXE:=hid_of hX
  have hbx:=HX.out
  rw[← hX] at hbx
  have lx:=block_lt hbx
  have HGO:=hid_of hgo
  have HBX0:=hid_of hbx
  rw[← hX]
  clear hgo hX hbx
  go_wp2_with fail
  refine wp_region_held (S:=fun u=>u.cell? ⟨X,0,none⟩=some (.int .i64 (cw:Int))∧u.cell? ⟨X,1,none⟩=some (.int .i64 (H:Int))∧u.cell? ⟨X,2,none⟩=some (.int .i64 c)∧u.cell? ⟨X,3,none⟩=some (.int .i64 (D:Int))∧u.cell? ⟨X,4,none⟩=some (.slice a n cap)∧X < u.heap.size) (by kernel_rfl) ?_
  show wpAnyH _ _ _ _ _ _ _ _ W1.drew
  have HS0:=tel_cells (W:=W1.drew) HBX0.out
  refine wpAnyH_take (i:=0) (v:=.pointer (some ⟨X,0,none⟩)) rfl (by kernel_rfl) (by kernel_rfl) (by kernel_rfl) (fun _ _ _ h=>h) (Or.inl ⟨by rfl,?_⟩) HS0 ?_
  ·intro w' hS
   obtain⟨s0,s1,s2,s3,s4,s5⟩:=hS
   go_simp
  simp only [Act.put,List.getElem_toArray,List.getElem_cons_zero,List.setIfInBounds_toArray,List.set_cons_zero,List.set_cons_succ]
  refine wpAnyH_take (i:=1) (v:=.int .i64 (cw:Int)) rfl (by kernel_rfl) (by kernel_rfl) (by kernel_rfl) (fun _ _ _ h=>h) (Or.inl ⟨by rfl,?_⟩) HS0 ?_
  ·intro w' hS
   obtain⟨s0,s1,s2,s3,s4,s5⟩:=hS
   go_simp
  simp only [Act.put,List.getElem_toArray,List.getElem_cons_zero,List.getElem_cons_succ,List.setIfInBounds_toArray,List.set_cons_zero,List.set_cons_succ]
  refine wpAnyH_take (i:=2) (v:=.pointer (some ⟨X,2,none⟩)) rfl (by kernel_rfl) (by kernel_rfl) (by kernel_rfl) (fun _ _ _ h=>h) (Or.inl ⟨by rfl,?_⟩) HS0 ?_
  ·intro w' hS
   obtain⟨s0,s1,s2,s3,s4,s5⟩:=hS
   go_simp
  simp only [Act.put,List.getElem_toArray,List.getElem_cons_zero,List.getElem_cons_succ,List.setIfInBounds_toArray,List.set_cons_zero,List.set_cons_succ]
  refine wpAnyH_take (i:=3) (v:=.int .i64 c) rfl (by kernel_rfl) (by kernel_rfl) (by kernel_rfl) (fun _ _ _ h=>h) (Or.inl ⟨by rfl,?_⟩) HS0 ?_
  ·intro w' hS
   obtain⟨s0,s1,s2,s3,s4,s5⟩:=hS
   go_simp
  simp only [Act.put,List.getElem_toArray,List.getElem_cons_zero,List.getElem_cons_succ,List.setIfInBounds_toArray,List.set_cons_zero,List.set_cons_succ]
  refine wpAnyH_take (i:=4) (v:=.pointer (some ⟨X,3,none⟩)) rfl (by kernel_rfl) (by kernel_rfl) (by kernel_rfl) (fun _ _ _ h=>h) (Or.inl ⟨by rfl,?_⟩) HS0 ?_
  ·intro w' hS
   obtain⟨s0,s1,s2,s3,s4,s5⟩:=hS
   go_simp
  simp only [Act.put,List.getElem_toArray,List.getElem_cons_zero,List.getElem_cons_succ,List.setIfInBounds_toArray,List.set_cons_zero,List.set_cons_succ]
  refine wpAnyH_take (i:=5) (v:=.int .i64 (D:Int)) rfl (by kernel_rfl) (by kernel_rfl) (by kernel_rfl) (fun _ _ _ h=>h) (Or.inl ⟨by rfl,?_⟩) HS0 ?_
  ·intro w' hS
   obtain⟨s0,s1,s2,s3,s4,s5⟩:=hS
   go_simp
  simp only [Act.put,List.getElem_toArray,List.getElem_cons_zero,List.getElem_cons_succ,List.setIfInBounds_toArray,List.set_cons_zero,List.set_cons_succ]
  refine wpAnyH_take (i:=7) (v:=.pointer (some ⟨X,2,none⟩)) rfl (by kernel_rfl) (by kernel_rfl) (by kernel_rfl) (fun _ _ _ h=>h) (Or.inl ⟨by rfl,?_⟩) HS0 ?_
  ·intro w' hS
   obtain⟨s0,s1,s2,s3,s4,s5⟩:=hS
   go_simp
  simp only [Act.put,List.getElem_toArray,List.getElem_cons_zero,List.getElem_cons_succ,List.setIfInBounds_toArray,List.set_cons_zero,List.set_cons_succ]
  refine wpAnyH_take (i:=8) (v:=.int .i64 c) rfl (by kernel_rfl) (by kernel_rfl) (by kernel_rfl) (fun _ _ _ h=>h) (Or.inl ⟨by rfl,?_⟩) HS0 ?_
  ·intro w' hS
   obtain⟨s0,s1,s2,s3,s4,s5⟩:=hS
   go_simp
  simp only [Act.put,List.getElem_toArray,List.getElem_cons_zero,List.getElem_cons_succ,List.setIfInBounds_toArray,List.set_cons_zero,List.set_cons_succ]
  refine wpAnyH_take (i:=9) (v:=.pointer (some ⟨X,3,none⟩)) rfl (by kernel_rfl) (by kernel_rfl) (by kernel_rfl) (fun _ _ _ h=>h) (Or.inl ⟨by rfl,?_⟩) HS0 ?_
  ·intro w' hS
   obtain⟨s0,s1,s2,s3,s4,s5⟩:=hS
   go_simp
  simp only [Act.put,List.getElem_toArray,List.getElem_cons_zero,List.getElem_cons_succ,List.setIfInBounds_toArray,List.set_cons_zero,List.set_cons_succ]
  refine wpAnyH_take (i:=10) (v:=.int .i64 (D:Int)) rfl (by kernel_rfl) (by kernel_rfl) (by kernel_rfl) (fun _ _ _ h=>h) (Or.inl ⟨by rfl,?_⟩) HS0 ?_
  ·intro w' hS
   obtain⟨s0,s1,s2,s3,s4,s5⟩:=hS
   go_simp
  simp only [Act.put,List.getElem_toArray,List.getElem_cons_zero,List.getElem_cons_succ,List.setIfInBounds_toArray,List.set_cons_zero,List.set_cons_succ]
  refine wpAnyH_ready (rs:=[6]) (by kernel_rfl) (by simp) ?_
  refine AllReadyH.cons rfl (fun K hK=>?_) AllReadyH.nil
  refine if_wanted (wanted_none rfl) ?_
  simp only [List.getElem_toArray,List.getElem_cons_zero,List.getElem_cons_succ]
  go_simp
  refine (hrb W1.drew).mono ?_
  rintro e w2 ⟨rfl,hB2⟩
  have HB2:Hid (Below W1.heap.size W1 w2):=⟨hB2.1,hB2.2,hB2.3,hB2.4,hB2.5⟩
  have BX2:=hid_of ((HB2.out.block _ (block_lt HBX0.out)).trans HBX0.out)
  clear hB2 hrb
  refine hK.out _ _ (tel_cells BX2.out) (fun HS2=>?_)
  clear hK K HS0
  refine wpAnyH_ready (rs:=[11]) (by kernel_rfl) (by simp) ?_
  refine AllReadyH.cons rfl (fun K hK=>?_) AllReadyH.nil
  refine if_wanted (wanted_none rfl) ?_
  simp only [List.getElem_toArray,List.getElem_cons_zero,List.getElem_cons_succ]
  go_simp
  refine (hpu w2).mono ?_
  rintro e w3 ⟨rfl,rfl⟩
  clear hpu
  refine hK.out _ _ (tel_cells BX2.out) (fun HS3=>?_)
  clear hK K HS2
  refine wpAnyH_take (i:=12) (v:=.int .i64 (rb (cw * N) D:Int)) rfl (by kernel_rfl) (by kernel_rfl) (by kernel_rfl) (fun _ _ _ h=>h) (Or.inl ⟨by rfl,?_⟩) HS3 ?_
  ·intro w' hS
   obtain⟨s0,s1,s2,s3,s4,s5⟩:=hS
   go_simp
  simp only [Act.put,List.getElem_toArray,List.getElem_cons_zero,List.getElem_cons_succ,List.setIfInBounds_toArray,List.set_cons_zero,List.set_cons_succ]
  refine wpAnyH_take (i:=13) (v:=.int .i64 (unitN N D:Int)) rfl (by kernel_rfl) (by kernel_rfl) (by kernel_rfl) (fun _ _ _ h=>h) (Or.inl ⟨by rfl,?_⟩) HS3 ?_
  ·intro w' hS
   obtain⟨s0,s1,s2,s3,s4,s5⟩:=hS
   go_simp
  simp only [Act.put,List.getElem_toArray,List.getElem_cons_zero,List.getElem_cons_succ,List.setIfInBounds_toArray,List.set_cons_zero,List.set_cons_succ]
  refine wpAnyH_done (by kernel_rfl) ?_ _
  clear lx HS3
  have hz0:Hid (w.heap.size+1≤w3.heap.size):=by
   show _≤_
   have:=HB2.out.size
   have:=block_lt HBX0.out
   have:=HXE.out
   omega
  have HBW:Hid (Below w.heap.size w w3):=bnext HBX.out HB2.out
  obtain⟨nb,hnbE⟩:∃ nb,nb=rb (cw * N) D:=⟨_,rfl⟩
  have HNBE:=hid_of hnbE
  have hnb2:nb≤200:=by rw [hnbE]; exact hnb
  rw[← hnbE]
  clear hnbE hnb
  have hmk1:=make_bytes12 w3.drew nb (by omega)
  have hmk2:=make_bytes12 (w3.alloc (.cells (madeCells #[Value.int .u8 0] nb) 5)).drew nb (by omega)
  have HOK:Hid (∀ R A,(R=w3.heap.size∧A=w3.heap.size+1∨R=w3.heap.size+1∧A=w3.heap.size)→ReaM w ((w3.alloc (.cells (madeCells #[Value.int .u8 0] nb) 5)).alloc (.cells (madeCells #[Value.int .u8 0] nb) 5)).drew H base S n cap t (cw * N) D (unitN N D) 0 R A):=fun R A hRA=>by
   have b2:Below (w3.alloc (.cells (madeCells #[Value.int .u8 0] nb) 5)).heap.size (w3.alloc (.cells (madeCells #[Value.int .u8 0] nb) 5)) ((w3.alloc (.cells (madeCells #[Value.int .u8 0] nb) 5)).alloc (.cells (madeCells #[Value.int .u8 0] nb) 5)).drew:=(bstart (w3.alloc (.cells (madeCells #[Value.int .u8 0] nb) 5)) (.cells (madeCells #[Value.int .u8 0] nb) 5)).drew
   have m1:BFn ((w3.alloc (.cells (madeCells #[Value.int .u8 0] nb) 5)).alloc (.cells (madeCells #[Value.int .u8 0] nb) 5)).drew (w.heap.size+1) w3.heap.size nb nb (fun _=>0):=(BFn.made (base:=w.heap.size+1) w3 nb (by unfold maxLen; omega) hz0.out).called b2
   have m2:BFn ((w3.alloc (.cells (madeCells #[Value.int .u8 0] nb) 5)).alloc (.cells (madeCells #[Value.int .u8 0] nb) 5)).drew (w.heap.size+1) (w3.heap.size+1) nb nb (fun _=>0):=by
    have:=(BFn.made (base:=w.heap.size+1) (w3.alloc (.cells (madeCells #[Value.int .u8 0] nb) 5)) nb (by unfold maxLen; omega) (Nat.le_trans hz0.out (bstart w3 (.cells (madeCells #[Value.int .u8 0] nb) 5)).size)).drew
    rw[show (w3.alloc (.cells (madeCells #[Value.int .u8 0] nb) 5)).heap.size=w3.heap.size+1 by simp] at this
    exact this
   have bb:Below w.heap.size w ((w3.alloc (.cells (madeCells #[Value.int .u8 0] nb) 5)).alloc (.cells (madeCells #[Value.int .u8 0] nb) 5)).drew:=(bal (bal HBW.out _) _).drew
   have hz:∀ i,i < nb→(0:Int)=bts (rabove t 0 (rb (cw * N) D) (unitN N D) 0) i:=fun i hi=>by
    show (0:Int)=bts (zeroT (rb (cw * N) D)) i
    rw[bts_zero _ _ (by rw [← HNBE.out]; exact hi)]
   refine⟨?_,?_,?_,by omega,But.of_below bb⟩
   ·rcases HO.out with q | ⟨-,q⟩
    ·exact .inl q
    ·refine .inr ⟨h0,q.called bb,fun i hi=>?_⟩
     rw[Nat.zero_mul] at hi
     omega
   ·rw[← HNBE.out]
    rcases hRA with ⟨rfl,rfl⟩ | ⟨rfl,rfl⟩
    ·exact⟨_,m1⟩
    ·exact⟨_,m2⟩
   ·rw[← HNBE.out] at hz ⊢
    rcases hRA with ⟨rfl,rfl⟩ | ⟨rfl,rfl⟩
    ·exact m2.congr hz
    ·exact m1.congr hz
  have BXZ:Hid (((w3.alloc (.cells (madeCells #[Value.int .u8 0] nb) 5)).alloc (.cells (madeCells #[Value.int .u8 0] nb) 5)).drew.heap[X]?=some (.cells #[.int .i64 (cw:Int),.int .i64 (H:Int),.int .i64 c,.int .i64 (D:Int),.slice a n cap] 26 (0,0))):=(Below.heap_alloc _ _ _ (by simp; have:=block_lt BX2.out; omega)).trans ((Below.heap_alloc _ _ _ (block_lt BX2.out)).trans BX2.out)
  go_wp2_with fail
  refine wp_region_held (S:=fun _=>True) (by kernel_rfl) ?_
  show wpAnyH _ _ _ _ _ _ _ _ w3.drew
  refine wpAnyH_take (i:=0) (v:=.int .i64 (nb:Int)) rfl (by kernel_rfl) (by kernel_rfl) (by kernel_rfl) (fun _ _ _ h=>h) (Or.inl ⟨by rfl,?_⟩) trivial ?_
  ·intro w' _
   go_simp
  simp only [Act.put,List.getElem_toArray,List.getElem_cons_zero,List.setIfInBounds_toArray,List.set_cons_zero,List.set_cons_succ]
  refine wpAnyH_take (i:=2) (v:=.int .i64 (nb:Int)) rfl (by kernel_rfl) (by kernel_rfl) (by kernel_rfl) (fun _ _ _ h=>h) (Or.inl ⟨by rfl,?_⟩) trivial ?_
  ·intro w' _
   go_simp
  simp only [Act.put,List.getElem_toArray,List.getElem_cons_zero,List.getElem_cons_succ,List.setIfInBounds_toArray,List.set_cons_zero,List.set_cons_succ]
  refine wpAnyH_ready (rs:=[1,3]) (by kernel_rfl) (by simp) ?_
  refine AllReadyH.cons rfl (fun K hK=>?_) (AllReadyH.cons rfl (fun K hK=>?_) AllReadyH.nil)
  ·refine if_wanted (wanted_none rfl) ?_
   simp only [List.getElem_toArray,List.getElem_cons_zero,List.getElem_cons_succ]
   go_simp
   refine hK.out _ _ trivial (fun _=>?_)
   clear hK K
   refine wpAnyH_take (i:=4) (v:=.slice (some ⟨w3.heap.size,0,none⟩) nb nb) rfl (by kernel_rfl) (by kernel_rfl) (by kernel_rfl) (fun _ _ _ h=>h) (Or.inl ⟨by rfl,?_⟩) trivial ?_
   ·intro w' _
    go_simp
   simp only [Act.put,List.getElem_toArray,List.getElem_cons_zero,List.getElem_cons_succ,List.setIfInBounds_toArray,List.set_cons_zero,List.set_cons_succ]
   refine wpAnyH_ready (rs:=[3]) (by kernel_rfl) (by simp) ?_
   refine AllReadyH.cons rfl (fun K hK=>?_) AllReadyH.nil
   refine if_wanted (wanted_none rfl) ?_
   simp only [List.getElem_toArray,List.getElem_cons_zero,List.getElem_cons_succ]
   go_simp
   refine hK.out _ _ trivial (fun _=>?_)
   clear hK K
   refine wpAnyH_take (i:=5) (v:=.slice (some ⟨w3.heap.size+1,0,none⟩) nb nb) rfl (by kernel_rfl) (by kernel_rfl) (by kernel_rfl) (fun _ _ _ h=>h) (Or.inl ⟨by rfl,?_⟩) trivial ?_
   ·intro w' _
    go_simp
   simp only [Act.put,List.getElem_toArray,List.getElem_cons_zero,List.getElem_cons_succ,List.setIfInBounds_toArray,List.set_cons_zero,List.set_cons_succ]
   refine wpAnyH_done (by kernel_rfl) ?_ _
   clear hmk1 hmk2
   go_wp2_with fail
   go_step3
   rename_i K1 hK1
   obtain rfl:=HXE.out
   obtain rfl:=HNBE.out
   exact hK1 _ _ (HGO.out _ _ (reaJ_mk cw H N D n cap c a h0 base S t w (y:=0) (at_:=0) (R:=w3.heap.size) (A:=w3.heap.size+1) _ _ _ _ _ _ _ _ _ _ _ _ _ _ _ _ _ _ _ _ _ _ _ _ _ _ _ _ _ _ _ _ _ _ _ _ _ _ _ _ _ _ _ _ _ _ _ _ _ _ _ _ _ _ (Nat.zero_le _) (by rw [Nat.zero_mul]) BXZ.out (HOK.out _ _ (.inl ⟨rfl,rfl⟩)) (fun j hj=>absurd hj (Nat.not_lt_zero j))))
  ·refine if_wanted (wanted_none rfl) ?_
   simp only [List.getElem_toArray,List.getElem_cons_zero,List.getElem_cons_succ]
   go_simp
   refine hK.out _ _ trivial (fun _=>?_)
   clear hK K
   refine wpAnyH_ready (rs:=[1]) (by kernel_rfl) (by simp) ?_
   refine AllReadyH.cons rfl (fun K hK=>?_) AllReadyH.nil
   refine if_wanted (wanted_none rfl) ?_
   simp only [List.getElem_toArray,List.getElem_cons_zero,List.getElem_cons_succ]
   go_simp
   refine hK.out _ _ trivial (fun _=>?_)
   clear hK K
   refine wpAnyH_take (i:=4) (v:=.slice (some ⟨w3.heap.size+1,0,none⟩) nb nb) rfl (by kernel_rfl) (by kernel_rfl) (by kernel_rfl) (fun _ _ _ h=>h) (Or.inl ⟨by rfl,?_⟩) trivial ?_
   ·intro w' _
    go_simp
   simp only [Act.put,List.getElem_toArray,List.getElem_cons_zero,List.getElem_cons_succ,List.setIfInBounds_toArray,List.set_cons_zero,List.set_cons_succ]
   refine wpAnyH_take (i:=5) (v:=.slice (some ⟨w3.heap.size,0,none⟩) nb nb) rfl (by kernel_rfl) (by kernel_rfl) (by kernel_rfl) (fun _ _ _ h=>h) (Or.inl ⟨by rfl,?_⟩) trivial ?_
   ·intro w' _
    go_simp
   simp only [Act.put,List.getElem_toArray,List.getElem_cons_zero,List.getElem_cons_succ,List.setIfInBounds_toArray,List.set_cons_zero,List.set_cons_succ]
   refine wpAnyH_done (by kernel_rfl) ?_ _
   clear hmk1 hmk2
   go_wp2_with fail
   go_step3
   rename_i K1 hK1
   obtain rfl:=HXE.out
   obtain rfl:=HNBE.out
   exact hK1 _ _ (HGO.out _ _ (reaJ_mk cw H N D n cap c a h0 base S t w (y:=0) (at_:=0) (R:=w3.heap.size+1) (A:=w3.heap.size) _ _ _ _ _ _ _ _ _ _ _ _ _ _ _ _ _ _ _ _ _ _ _ _ _ _ _ _ _ _ _ _ _ _ _ _ _ _ _ _ _ _ _ _ _ _ _ _ _ _ _ _ _ _ (Nat.zero_le _) (by rw [Nat.zero_mul]) BXZ.out (HOK.out _ _ (.inr ⟨rfl,rfl⟩)) (fun j hj=>absurd hj (Nat.not_lt_zero j))))
end Go.Proofs.YtcbbcadfolgioaaDoor
