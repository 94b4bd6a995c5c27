/-
  Texts of the proof, put together.
-/
import Derived.Test.YtcbbcadfolgioaaDoorPe01
import Derived.WalkLawsBesides
import Derived.BigQuiet
namespace Go.Proofs.YtcbbcadfolgioaaDoor
section
open Go.RowKit Go.Joins
def fints (f:Nat→Int) (n:Nat):List Value:=(List.range n).map fun i=>.int .i64 (f i)
def upd (f:Nat→Int) (j:Nat) (x:Int):Nat→Int:=fun i=>if i=j then x else f i
theorem fints_length (f:Nat→Int) (n:Nat):(fints f n).length=n:=by simp [fints]
theorem fints_get (f:Nat→Int) (n j:Nat) (h:j < (fints f n).length):(fints f n)[j]=.int .i64 (f j):=by simp [fints]
theorem fints_congr {f g:Nat→Int} {n:Nat} (h:∀ i,i < n→f i=g i):fints f n=fints g n:=by
 unfold fints
 refine List.map_congr_left fun i hi=>?_
 rw[h i (List.mem_range.mp hi)]
theorem fints_set (f:Nat→Int) (n j:Nat) (x:Int):(fints f n).set j (.int .i64 x)=fints (upd f j x) n:=by
 refine List.ext_getElem (by simp [fints]) fun i h1 h2=>?_
 rw[List.getElem_set,fints_get (upd f j x)]
 by_cases hij:j=i
 ·subst hij
  rw[if_pos rfl]
  simp[upd]
 ·have hji:¬ i=j:=fun h=>hij h.symm
  rw[if_neg hij,fints_get]
  simp[upd,hji]
theorem fints_app (f:Nat→Int) (n:Nat) (x:Int):fints f n ++ [.int .i64 x]=fints (upd f n x) (n+1):=by
 unfold fints
 rw[List.range_succ,List.map_append]
 congr 1
 ·refine List.map_congr_left fun i hi=>?_
  have:=List.mem_range.mp hi
  unfold upd
  rw[if_neg (by omega)]
 ·unfold upd
  simp
def IOwn (w:World) (base g n cap:Nat) (f:Nat→Int):Prop:=Own 3 w base g (.slice (some ⟨g,0,none⟩) n cap) (fints f n)
section
variable {w w':World} {base g n cap:Nat} {f:Nat→Int}
theorem IOwn.lt (h:IOwn w base g n cap f):g < w.heap.size:=Own.lt h
theorem IOwn.base_le (h:IOwn w base g n cap f):base≤g:=Own.base_le h
theorem IOwn.cell (h:IOwn w base g n cap f) (j:Nat) (hj:j < n):w.cell? ⟨g,j,none⟩=some (.int .i64 (f j)):=by
 have h':j < (fints f n).length:=by rw [fints_length]; exact hj
 rw[Own.cell h j h',fints_get]
theorem IOwn.free (h:IOwn w base g n cap f) (j:Nat) (hj:j < n):w.frozen? ⟨g,j,none⟩=false:=Own.free h j (by rw [fints_length]; exact hj)
theorem IOwn.set (h:IOwn w base g n cap f) (j:Nat) (hj:j < n) (x:Int):IOwn (w.setCell ⟨g,j,none⟩ (.int .i64 x)) base g n cap (upd f j x):=by
 have k:=Own.set h j (by rw [fints_length]; exact hj) (.int .i64 x)
 rw[fints_set] at k
 exact k
theorem IOwn.congr {f':Nat→Int} (h:IOwn w base g n cap f) (e:∀ i,i < n→f i=f' i):IOwn w base g n cap f':=by
 unfold IOwn at h ⊢
 rw[← fints_congr e]
 exact h
theorem IOwn.keep (h:IOwn w base g n cap f) (hk:w'.heap[g]?=w.heap[g]?):IOwn w' base g n cap f:=Own.keep h hk
theorem IOwn.alloc (h:IOwn w base g n cap f) (o:Obj):IOwn (w.alloc o) base g n cap f:=Own.alloc h o
theorem IOwn.drew (h:IOwn w base g n cap f):IOwn w.drew base g n cap f:=Own.drewN h 1
theorem IOwn.below {B:Nat} (h:IOwn w base g n cap f) (hb:Below B w w') (hg:g < B):IOwn w' base g n cap f:=Own.below h hb hg
theorem IOwn.called (h:IOwn w base g n cap f) (hb:Below w.heap.size w w'):IOwn w' base g n cap f:=Own.below h hb h.lt
theorem IOwn.mono {b:Nat} (h:IOwn w base g n cap f) (hb:b≤base):IOwn w b g n cap f:=Own.mono h hb
theorem IOwn.grown {row:Option Nat} (h:IOwn w base g n cap f) (hg:w.grownBy w' row) (hne:row≠some g):IOwn w' base g n cap f:=h.keep (hg.block g h.lt (Ne.symm hne))
theorem made_ints (n:Nat):(madeCells #[Value.int .i64 0] n).toList=fints (fun _=>0) n:=by
 unfold madeCells fints
 rw[Array.toList_map,Array.toList_range]
 refine List.map_congr_left fun i _=>?_
 simp[Nat.mod_one]
theorem IOwn.made (w:World) (n:Nat) (hn:n≤maxLen) (hb:base≤w.heap.size):IOwn (w.alloc (.cells (madeCells #[Value.int .i64 0] n) 3)) base w.heap.size n n (fun _=>0):=by
 refine⟨n,madeCells #[Value.int .i64 0] n,(0,0),by rw [fints_length],hb,heap_alloc_new w _,.inl rfl,by rw [fints_length]; exact Nat.le_refl _,hn,by simp [madeCells],?_⟩
 rw[made_ints,fints_length,List.take_of_length_le (by rw [fints_length]; exact Nat.le_refl _)]
end
def Came (w:World) (a:Option Addr) (n:Nat) (f:Nat→Int):Prop:=
 n=0∨∃ g off,a=some ⟨g,off,none⟩∧g < w.heap.size∧∀ j,j < n→w.cell? ⟨g,off+j,none⟩=some (.int .i64 (f j))
theorem Came.called {w w':World} {a:Option Addr} {n:Nat} {f:Nat→Int} (h:Came w a n f) (hb:Below w.heap.size w w'):Came w' a n f:=by
 rcases h with h | ⟨g,off,ha,hg,hc⟩
 ·exact .inl h
 ·exact .inr ⟨g,off,ha,Nat.lt_of_lt_of_le hg hb.size,fun j hj=>(hb.cell (p:=⟨g,off+j,none⟩) hg).trans (hc j hj)⟩
def SL (w:World) (base:Nat) (a:Option Addr) (n cap:Nat) (f:Nat→Int):Prop:=n=0∨∃ g,a=some ⟨g,0,none⟩∧IOwn w base g n cap f
theorem SL.came {w:World} {base:Nat} {a:Option Addr} {n cap:Nat} {f:Nat→Int} (h:SL w base a n cap f):Came w a n f:=by
 rcases h with h | ⟨g,rfl,h⟩
 ·exact .inl h
 ·exact .inr ⟨g,0,rfl,h.lt,fun j hj=>by rw [Nat.zero_add]; exact h.cell j hj⟩
theorem SL.called {w w':World} {base:Nat} {a:Option Addr} {n cap:Nat} {f:Nat→Int} (h:SL w base a n cap f) (hb:Below w.heap.size w w'):SL w' base a n cap f:=by
 rcases h with h | ⟨g,rfl,h⟩
 ·exact .inl h
 ·exact .inr ⟨g,rfl,h.called hb⟩
theorem IOwn.sl {w:World} {base g n cap:Nat} {f:Nat→Int} (h:IOwn w base g n cap f):SL w base (some ⟨g,0,none⟩) n cap f:=.inr ⟨g,rfl,h⟩
theorem Came.grown {w w':World} {a:Option Addr} {n B:Nat} {f:Nat→Int} {row:Option Nat} (h:Came w a n f) (hB:∀ g off,a=some ⟨g,off,none⟩→g < B) (hr:∀ k,row=some k→B≤k) (hg:w.grownBy w' row):Came w' a n f:=by
 rcases h with h | ⟨g,off,ha,hlt,hc⟩
 ·exact .inl h
 ·refine .inr ⟨g,off,ha,Nat.lt_of_lt_of_le hlt hg.size,fun j hj=>?_⟩
  have hne:some g≠row:=fun e=>by have h1:=hB g off ha; have h2:=hr g e.symm; omega
  have hb:=hg.block g hlt hne
  rw[← hc j hj]
  unfold World.cell?
  rw[hb]
theorem came_of_row {w:World} {a:Option Addr} {len cap:Nat} {zs:List Int} (h:IsRow .i64 w a len cap zs):Came w a len (fun j=>zs.getD j 0)∧len≤maxLen∧∀ i,i < len→(Lit.int .i64 (zs.getD i 0)).wf=true:=by
 rcases h with ⟨_,rfl,rfl,_⟩ | ⟨x,rfl,hl,hm,hz,hc,hw⟩
 ·exact⟨.inl rfl,Nat.zero_le _,fun i hi=>absurd hi (Nat.not_lt_zero i)⟩
 ·refine⟨?_,by omega,fun i hi=>hw _ ?_⟩
  ·rcases Nat.eq_zero_or_pos len with h0 | h0
   ·exact .inl h0
   ·obtain⟨b,off,spot⟩:=x
    have h1:=hc 0 (by omega)
    have hspot:spot=none:=by simpa [Addr.add] using World.cell?_spot h1
    subst hspot
    have hadd:∀ j,(⟨b,off,none⟩:Addr).add j=⟨b,off+j,none⟩:=fun j=>Addr.add_lit _ _ _
    refine .inr ⟨b,off,rfl,?_,fun j hj=>?_⟩
    ·rw[hadd] at h1
     exact World.block_lt_of_cell? w _ h1
    ·have h2:=hc j (by omega)
     rw[hadd] at h2
     exact h2
  ·rw[List.getD_eq_getElem?_getD,List.getElem?_eq_getElem (by omega)]
   exact List.getElem_mem _
end
section
open Go.RowKit Go.Joins
theorem info_i64:(Tryd.prog.info? 3).map (fun i=>(i.zero,i.size,i.bytes))=some (some (.int .i64 0),1,8):=by kernel_rfl
theorem make_ints (w:World) (n:Nat) (hn:n≤1048576):(Instr.makeSlice 24 (.int .i64 n) (.int .i64 n)).run Tryd.prog w=.ok (.slice (some ⟨w.heap.size,0,none⟩) n n) (w.alloc (.cells (madeCells #[Value.int .i64 0] n) 3)):=by
 obtain⟨i0,hi0,hz0,hz1,hz2⟩:=info_parts info_i64
 have h:=run_make (P:=Tryd.prog) w 24 3 i0 (.int .i64 0) Tryd.underlying24 hi0 hz0 .i64 .i64 n n (by omega) (by omega) (by rw [hz2]; omega) (by omega)
 rw[hz1,Int.toNat_natCast,Nat.mul_one] at h
 exact h
set_option maxHeartbeats 800000 in
theorem toIntS_any (a:Option Addr) (n cap:Nat) (f:Nat→Int) (w:World) (hr:Came w a n f) (hn:n≤1048576):
  Calls Tryd.prog 52 #[.slice a n cap] w fun e w'=>e=.returned (.slice (some ⟨w.heap.size,0,none⟩) n n)∧IOwn w' w.heap.size w.heap.size n n f∧Below w.heap.size w w':=by
 have hm:=make_ints w n hn
 have hO:=IOwn.made (base:=w.heap.size) w n (by unfold maxLen; omega) (Nat.le_refl _)
 have hB:Below w.heap.size w (w.alloc (.cells (madeCells #[Value.int .i64 0] n) 3)):=bstart _ _
 generalize w.alloc (.cells (madeCells #[Value.int .i64 0] n) 3)=w1 at hm hO hB
 have HO:Hid (IOwn w1 w.heap.size w.heap.size n n (fun _=>0)):=hO
 have HB:Hid (Below w.heap.size w w1):=hB
 have HR:Hid (Came w a n f):=hr
 clear hO hr hB
 go_enter Tryd.func52,Tryd.ntmps52
 go_wp2_with fail
 go_loopw [4] (fun i w'=>∃ (j:Nat) (h:Nat→Int),j≤n∧i=.int .i64 j∧Hid (∀ i,i < j→h i=f i)∧Hid (IOwn w' w.heap.size w.heap.size n n h)∧Hid (Below w.heap.size w w')) (fun i _=>n - (intOf i).toNat)
 case atStart=>exact⟨0,_,Nat.zero_le _,rfl,fun i hi=>absurd hi (Nat.not_lt_zero i),HO,HB⟩
 case round=>
  obtain⟨j,h,hj,rfl,hh,hOj,hBj⟩:=hrel
  by_cases hlt:j < n
  ·rcases HR.out with h0 | ⟨g,off,rfl,hg,hc⟩
   ·omega
   ·have c0:wr.cell? ⟨g,off+j,none⟩=some (.int .i64 (f j)):=(hBj.out.cell (p:=⟨g,off+j,none⟩) hg).trans (hc j hlt)
    have c1:=hOj.out.cell j hlt
    have f1:=hOj.out.free j hlt
    have hl:=hOj.out.lt
    have hl2:g < wr.heap.size:=Nat.lt_of_lt_of_le hg hBj.out.size
    have HO1:Hid (IOwn (wr.setCell ⟨w.heap.size,j,none⟩ (.int .i64 (f j))) w.heap.size w.heap.size n n (upd h j (f j))):=hOj.out.set j hlt _
    have HB1:Hid (Below w.heap.size w (wr.setCell ⟨w.heap.size,j,none⟩ (.int .i64 (f j)))):=Below.setCell (p:=⟨w.heap.size,j,none⟩) hBj.out (Nat.le_refl _) _
    have HH:Hid (∀ i,i < j+1→upd h j (f j) i=f i):=by
     intro i hi
     unfold upd
     by_cases e:i=j
     ·rw[if_pos e,e]
     ·rw[if_neg e]; exact hh.out i (by omega)
    clear hc
    go_wp2_with fail
    go_roundw
    case rel=>exact⟨j+1,_,by omega,by go_num,HH,HO1,HB1⟩
    case measure=>simp [intOf]; omega
  ·obtain rfl:j=n:=by omega
   go_wp2_with fail
   go_ret
   exact⟨rfl,hOj.out.congr hh.out,hBj.out⟩
set_option maxHeartbeats 800000 in
theorem eqIntS_same (a b:Option Addr) (n c1 c2:Nat) (f:Nat→Int) (w:World) (ha:Came w a n f) (hb:Came w b n f) (hn:n≤1048576):
  Calls Tryd.prog 53 #[.slice a n c1,.slice b n c2] w fun e w'=>e=.returned (.bool true)∧Below w.heap.size w w':=by
 have HA:Hid (Came w a n f):=ha
 have HB:Hid (Came w b n f):=hb
 clear ha hb
 go_enter Tryd.func53,Tryd.ntmps53
 go_wp2_with fail
 go_loopw [5] (fun i w'=>∃ (j:Nat),j≤n∧i=.int .i64 j∧Hid (Below w.heap.size w w')) (fun i _=>n - (intOf i).toNat)
 case atStart=>exact⟨0,Nat.zero_le _,rfl,Below.refl _ _⟩
 case round=>
  obtain⟨j,hj,rfl,hBj⟩:=hrel
  by_cases hlt:j < n
  ·rcases HA.out with h0 | ⟨g,off,rfl,hg,hc⟩
   ·omega
   ·rcases HB.out with h0 | ⟨g',off',rfl,hg',hc'⟩
    ·omega
    ·have k0:wr.cell? ⟨g,off+j,none⟩=some (.int .i64 (f j)):=(hBj.out.cell (p:=⟨g,off+j,none⟩) hg).trans (hc j hlt)
     have k1:wr.cell? ⟨g',off'+j,none⟩=some (.int .i64 (f j)):=(hBj.out.cell (p:=⟨g',off'+j,none⟩) hg').trans (hc' j hlt)
     have l0:g < wr.heap.size:=Nat.lt_of_lt_of_le hg hBj.out.size
     have l1:g' < wr.heap.size:=Nat.lt_of_lt_of_le hg' hBj.out.size
     clear hc hc'
     go_wp2_with fail
     go_region
     all_goals
      go_wp2_with fail
      go_roundw
      case rel=>exact⟨j+1,by omega,by go_num,hBj.out.drew⟩
      case measure=>simp [intOf]; omega
  ·go_wp2_with fail
   go_ret
   exact⟨rfl,hBj.out⟩
theorem IOwn.came {w:World} {base g n cap:Nat} {f:Nat→Int} (h:IOwn w base g n cap f):Came w (some ⟨g,0,none⟩) n f:=
 .inr ⟨g,0,rfl,h.lt,fun j hj=>by rw [Nat.zero_add]; exact h.cell j hj⟩
end
section
namespace RastMath
def chan (c:Int):Int:=if c=0∨c=3 then 1 else if c=2 then 3 else if c=4 then 2 else if c=6 then 4 else 0
abbrev Five (d:Int):Prop:=d=1∨d=2∨d=4∨d=8∨d=16
abbrev DepthR (c d:Int):Prop:=(c=0∧Five d)∨(c=3∧Five d∧d≠16)∨((c=2∨c=4∨c=6)∧(d=8∨d=16))
abbrev SideR (n:Int):Prop:=1≤n∧n≤24
def rowB (w c d:Int):Int:=if SideR w∧DepthR c d then (w * chan c * d+7) / 8 else 0
theorem chan_range (c:Int):0≤chan c∧chan c≤4:=by
 unfold chan
 repeat' split
 all_goals omega
theorem chan_pos {c d:Int} (h:DepthR c d):1≤chan c:=by
 unfold chan
 rcases h with ⟨rfl,_⟩ | ⟨rfl,_⟩ | ⟨rfl | rfl | rfl,_⟩ <;> decide
theorem depth_five {c d:Int} (h:DepthR c d):Five d:=by
 rcases h with ⟨_,h⟩ | ⟨_,h,_⟩ | ⟨_,h⟩
 ·exact h
 ·exact h
 ·exact .inr (.inr (.inr h))
theorem five_range {d:Int} (h:Five d):1≤d∧d≤16:=by
 unfold Five at h
 omega
end RastMath
end
section
namespace OutMath
def p2 (n:Nat):Int:=2 ^ n
theorem p2_zero:p2 0=1:=by simp [p2]
theorem p2_succ (n:Nat):p2 (n+1)=2 * p2 n:=by unfold p2; rw [Int.pow_succ]; omega
theorem p2_pos:∀ n,1≤p2 n
 | 0=>by simp [p2]
 | n+1=>by have:=p2_pos n; rw [p2_succ]; omega
theorem p2_mono (n:Nat):∀ m,p2 n≤p2 (n+m)
 | 0=>by simp
 | m+1=>by have:=p2_mono n m; have h:=p2_pos (n+m); rw [← Nat.add_assoc,p2_succ]; omega
theorem p2_le {n m:Nat} (h:n≤m):p2 n≤p2 m:=by
 obtain⟨k,rfl⟩:=Nat.exists_eq_add_of_le h
 exact p2_mono n k
theorem p2_61 {n:Nat} (h:n≤61):p2 n≤2305843009213693952:=by
 have h1:=p2_le h
 have h2:p2 61=2305843009213693952:=by decide +kernel
 omega
theorem p2_nat (n:Nat):p2 n=((2 ^ n:Nat):Int):=by unfold p2; simp
end OutMath
end
section
namespace PutMath
open OutMath
def bitOf (x:Int) (k:Nat):Int:=x / p2 k % 2
end PutMath
end
section
namespace TakeMath
open OutMath
def byteAt (s:ByteArray) (i:Nat):Nat:=(s.data[i]?.getD 0).toNat
theorem byteAt_lt (s:ByteArray) (i:Nat):byteAt s i < 256:=UInt8.toNat_lt _
theorem byteAt_get (s:ByteArray) (i:Nat) (h:i < s.size):(s[i]'h).toNat=byteAt s i:=by
 unfold byteAt
 have h':i < s.data.size:=h
 rw[Array.getElem?_eq_getElem h']
 rfl
def bit (s:ByteArray) (i:Nat):Int:=(byteAt s (i / 8):Int) / p2 (i % 8) % 2
end TakeMath
end
section
namespace BitsMath
open OutMath PutMath TakeMath
theorem p2_add (a:Nat):∀ b,p2 (a+b)=p2 a * p2 b
 | 0=>by rw [p2_zero,Nat.add_zero]; omega
 | b+1=>by rw [← Nat.add_assoc,p2_succ,p2_add a b,p2_succ,← Int.mul_assoc,← Int.mul_assoc,Int.mul_comm 2 (p2 a)]
section
variable {xs:List Int} {c:Nat} {f:Nat→Int}
end
section
variable {v:Nat→Int} {n:Nat→Nat}
end
theorem code_step (x:Int) (n k:Nat) (hk:k < n):2 * (x / p2 (n - k))+bitOf x (n - 1 - k)=x / p2 (n - (k+1)):=by
 have e:n - k=n - (k+1)+1:=by omega
 have e2:n - 1 - k=n - (k+1):=by omega
 unfold bitOf
 rw[e,e2,p2_succ,Int.mul_comm 2 (p2 _),← Int.ediv_ediv_of_nonneg (by have:=p2_pos (n - (k+1)); omega)]
 generalize x / p2 (n - (k+1))=u
 omega
end BitsMath
end
section
namespace RastMath
open OutMath PutMath BitsMath
def hb (g:Nat→Int):Nat→Int
 | 0=>0
 | k+1=>2 * hb g k+g k
theorem hb_congr {g h:Nat→Int}:∀ m,(∀ k,k < m→g k=h k)→hb g m=hb h m
 | 0,_=>rfl
 | m+1,e=>by
  show 2 * hb g m+g m=2 * hb h m+h m
  rw[hb_congr m fun k hk=>e k (by omega),e m (by omega)]
theorem hb_range {g:Nat→Int} (h:∀ k,0≤g k∧g k≤1):∀ m,0≤hb g m∧hb g m < p2 m
 | 0=>by rw [p2_zero]; exact⟨Int.le_refl _,by show (0:Int) < 1; omega⟩
 | m+1=>by
  have h1:=hb_range h m
  have h2:=h m
  rw[p2_succ]
  show 0≤2 * hb g m+g m∧2 * hb g m+g m < 2 * p2 m
  omega
theorem hb_num (x:Int) (d:Nat) (h0:0≤x) (h1:x < p2 d):∀ j,j≤d→hb (fun k=>bitOf x (d - 1 - k)) j=x / p2 (d - j)
 | 0,_=>by
  show (0:Int)=_
  rw[Nat.sub_zero]
  exact (Int.ediv_eq_zero_of_lt h0 h1).symm
 | j+1,hj=>by
  show 2 * hb _ j+bitOf x (d - 1 - j)=_
  rw[hb_num x d h0 h1 j (by omega)]
  exact code_step x d j (by omega)
theorem bitOf_range (x:Int) (i:Nat):0≤bitOf x i∧bitOf x i≤1:=by
 unfold bitOf
 omega
def rowBit (f:Nat→Int) (n d j:Nat):Int:=if j < n * d then bitOf (f (j / d)) (d - 1 - j % d) else 0
theorem rowBit_range (f:Nat→Int) (n d j:Nat):0≤rowBit f n d j∧rowBit f n d j≤1:=by
 unfold rowBit
 split
 ·exact bitOf_range _ _
 ·omega
def packB (f:Nat→Int) (n d i:Nat):Int:=hb (fun k=>rowBit f n d (8 * i+k)) 8
theorem packB_range (f:Nat→Int) (n d i:Nat):0≤packB f n d i∧packB f n d i < 256:=hb_range (fun k=>rowBit_range f n d (8 * i+k)) 8
end RastMath
end
section
open Go.RowKit OutMath PutMath TakeMath BitsMath RastMath
theorem p2_add (a:Nat):∀ b,p2 (a+b)=p2 a * p2 b
 | 0=>by rw [p2_zero,Nat.add_zero,Int.mul_one]
 | b+1=>by rw [← Nat.add_assoc,p2_succ,p2_add a b,p2_succ,Int.mul_left_comm]
theorem hb_split (g:Nat→Int) (a:Nat):∀ b,hb g (a+b)=hb g a * p2 b+hb (fun k=>g (a+k)) b
 | 0=>by show hb g a=hb g a * p2 0+0; rw [p2_zero]; omega
 | b+1=>by
  show 2 * hb g (a+b)+g (a+b)=hb g a * p2 (b+1)+(2 * hb (fun k=>g (a+k)) b+g (a+b))
  rw[hb_split g a b,p2_succ,Int.mul_left_comm]
  omega
theorem hb_zero:∀ m,hb (fun _=>0) m=0
 | 0=>rfl
 | m+1=>by show 2 * hb _ m+0=0; rw [hb_zero m]; omega
theorem bitOf_mod (x:Int) {d m:Nat} (h:m < d):bitOf (x % p2 d) m=bitOf x m:=by
 unfold bitOf
 obtain⟨e,rfl⟩:∃ e,d=m+(e+1):=⟨d - m - 1,by omega⟩
 have hp:=p2_pos m
 have h1:x=x % p2 (m+(e+1))+p2 m * (2 * p2 e * (x / p2 (m+(e+1)))):=by
  have h2:=Int.emod_add_mul_ediv x (p2 (m+(e+1)))
  rw[p2_add m (e+1),p2_succ] at h2 ⊢
  rw[Int.mul_assoc] at h2
  exact h2.symm
 have h3:x / p2 m=x % p2 (m+(e+1)) / p2 m+2 * (p2 e * (x / p2 (m+(e+1)))):=by
  have h4:x / p2 m=(x % p2 (m+(e+1))+p2 m * (2 * p2 e * (x / p2 (m+(e+1))))) / p2 m:=congrArg (· / p2 m) h1
  rw[h4,Int.add_mul_ediv_left _ _ (by omega),Int.mul_assoc]
 rw[h3]
 omega
theorem bitOf_div (x:Int) (a m:Nat):bitOf (x / p2 a) m=bitOf x (a+m):=by
 unfold bitOf
 have:=p2_pos a
 rw[Int.ediv_ediv_of_nonneg (by omega),p2_add]
theorem five_place {d:Nat} (h:Five (d:Int)) (h16:¬ d=16) (i:Nat):i * d % 8+d≤8:=by
 have:d=1∨d=2∨d=4∨d=8:=by
  unfold Five at h
  omega
 rcases this with rfl | rfl | rfl | rfl <;> omega
end
end Go.Proofs.YtcbbcadfolgioaaDoor
