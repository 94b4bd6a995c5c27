/-
  Texts of the proof, put together.
-/
import Derived.Test.YtklpiihnbokkkaaGreatDoorFk06
namespace Go.Proofs.YtklpiihnbokkkaaGreatDoor
open OutMath CodeMath PackageMath
theorem two_split {z l:Nat} (hz:z≤15) (hl:l≤z):(2:Int) ^ (15 - l)=2 ^ (15 - z) * 2 ^ (z - l):=by
 rw[← Int.pow_add]
 congr 1
 omega
theorem room_scale (c l:Nat→Int) (z:Nat) (hz:z≤15):∀ n:Nat,(∀ i,i < n→c i=0→l i=0)→(∀ i,i < n→c i≠0→1≤l i∧l i≤(z:Int))→room l n=2 ^ (15 - z) * sumTo (fun i=>if c i=0 then 0 else (2:Int) ^ (z - (l i).toNat)) n
 | 0,_,_=>by simp [room,sumTo]
 | n+1,h0,h1=>by
  have h:=room_scale c l z hz n (fun i hi=>h0 i (by omega)) (fun i hi=>h1 i (by omega))
  show room l n+(if 0 < l n then p2 (15 - l n).toNat else 0)=_ * (sumTo _ n+(if c n=0 then 0 else (2:Int) ^ (z - (l n).toNat)))
  rw[Int.mul_add,h]
  congr 1
  by_cases e:c n=0
  ·rw[if_pos e,if_neg (by rw [h0 n (by omega) e]; omega),Int.mul_zero]
  ·have h2:=h1 n (by omega) e
   rw[if_neg e,if_pos (by omega),← two_split hz (by omega)]
   unfold p2
   congr 1
   omega
section
variable {f:Nat→Int} {n:Nat} {z:Int}
theorem lim_pack (hR:LimitRight f n z) (h2:2≤posN f n):
  (∀ i,i < n→(f i=0→limLen f n z i=0)∧(f i≠0→1≤limLen f n z i∧limLen f n z i≤z))∧
   sumTo (fun i=>if f i=0 then 0 else (2:Int) ^ (z.toNat - (limLen f n z i).toNat)) n=2 ^ z.toNat∧
   (∀ l':Nat→Int,(∀ i,i < n→f i≠0→0≤l' i∧l' i≤z)→sumTo (fun i=>if f i=0 then 0 else (2:Int) ^ (z.toNat - (l' i).toNat)) n≤2 ^ z.toNat→
    sumTo (fun i=>f i * limLen f n z i) n≤sumTo (fun i=>f i * l' i) n):=by
 obtain⟨_,hz1,hz2,hf,hp⟩:=hR
 have e:limLen f n z=lenS f n (z.toNat - 1):=by
  funext i
  unfold limLen
  rw[if_neg (by omega),if_neg (by omega)]
 have hl:(firstL f n).length=posN f n:=first_length f n
 have eK:z.toNat - 1+1=z.toNat:=by omega
 obtain⟨_,g1,g2,g3⟩:=package_syms (c:=f) (N:=n) (fun i hi=>(hf i hi).1) (z.toNat - 1) (by omega) (by rw [hl,eK]; exact hp)
 have ez:((z.toNat - 1:Nat):Int)+1=z:=by omega
 rw[ez] at g1 g3
 rw[eK] at g2 g3
 rw[e]
 exact⟨g1,g2,g3⟩
theorem lim_shape (hR:LimitRight f n z) (i:Nat) (hi:i < n):(f i=0→limLen f n z i=0)∧(f i≠0→1≤limLen f n z i∧limLen f n z i≤z):=by
 by_cases h2:2≤posN f n
 ·exact (lim_pack hR h2).1 i hi
 ·have hz:=hR.2.1
  by_cases p0:posN f n=0
  ·have q:¬ f i≠0:=fun h=>by
    have:=cN_one (fun i=>decide (f i≠0)) n i hi (by simpa using h)
    have p0':cN (fun i=>decide (f i≠0)) n=0:=p0
    omega
   exact⟨fun _=>(lim_none p0 i).symm,fun h=>absurd h q⟩
  ·have e:limLen f n z i=if f i=0 then 0 else 1:=by
    unfold limLen
    rw[if_neg p0,if_pos (by omega)]
   rw[e]
   refine⟨fun h=>if_pos h,fun h=>?_⟩
   rw[if_neg h]
   omega
theorem lim_whole (hR:LimitRight f n z) (h2:2≤posN f n):room (limLen f n z) n=32768:=by
 have hs:=lim_shape hR
 obtain⟨_,g2,_⟩:=lim_pack hR h2
 obtain⟨_,hz1,hz2,_⟩:=hR
 rw[room_scale f _ z.toNat (by omega) n (fun i hi=>(hs i hi).1) (fun i hi h=>by have:=(hs i hi).2 h; omega),g2,← Int.pow_add,show 15 - z.toNat+z.toNat=15 by omega]
 decide
end
end Go.Proofs.YtklpiihnbokkkaaGreatDoor
namespace Go.Proofs.YtklpiihnbokkkaaGreatDoor
open OutMath CodeMath PackageMath
theorem room_none (f:Nat→Int):∀ n:Nat,cnt f n=0→room f n=0∧0≤cnt f n
 | 0,_=>by simp [room,cnt]
 | n+1,h=>by
  have hb:∀ q,0≤cnt f q:=by
   intro q
   induction q with
   | zero=>simp [cnt]
   | succ q ih=>unfold cnt; split <;> omega
  have h':cnt f n+(if 0 < f n then 1 else 0)=0:=h
  have hn:=hb n
  by_cases e:0 < f n
  ·rw[if_pos e] at h'; omega
  ·rw[if_neg e] at h'
   refine⟨?_,by omega⟩
   show room f n+(if 0 < f n then p2 (15 - f n).toNat else 0)=0
   rw[if_neg e,(room_none f n (by omega)).1]
   rfl
theorem whole_kind {f:Nat→Int} {n:Nat} {k:Int} (h:Kind f n k) (hn:n≤288) (hf:OkLens f n) (hr:room f n=32768):k=2:=by
 rcases h with ⟨_,h⟩ | ⟨_,_,h⟩
 ·exact absurd ⟨hn,hf⟩ h
 ·rw[h]
  unfold kindOf
  rw[if_neg (fun q=>by have:=(room_none f n q).1; omega),if_pos hr]
theorem room_congr {f g:Nat→Int}:∀ n:Nat,(∀ i,i < n→f i=g i)→room f n=room g n
 | 0,_=>rfl
 | n+1,h=>by
  show room f n+_=room g n+_
  rw[room_congr n (fun i hi=>h i (by omega)),h n (by omega)]
theorem room_up (f:Nat→Int) (a:Nat):∀ d:Nat,room f a≤room f (a+d)
 | 0=>Int.le_refl _
 | d+1=>by
  have h:=room_up f a d
  have h2:=p2_pos (15 - f (a+d)).toNat
  show room f a≤room f (a+d)+(if 0 < f (a+d) then p2 (15 - f (a+d)).toNat else 0)
  split <;> omega
end Go.Proofs.YtklpiihnbokkkaaGreatDoor

namespace Go.Proofs.YtklpiihnbokkkaaGreatDoor
open Go.RowKit TokMath TrimMath TokLenMath PackageMath
theorem iown_cut {w:World} {base g n cap m:Nat} {f:Nat→Int} (h:IOwn w base g n cap f) (hm:m≤n):IOwn w base g m cap f:=by
 obtain⟨cap',cur,fz,e,h1,h2,h3,h4,h5,h6,h7⟩:=h
 rw[fints_length] at e h4 h7
 cases e
 refine⟨cap,cur,fz,by rw [fints_length],h1,h2,h3,by rw [fints_length]; omega,h5,h6,?_⟩
 rw[fints_length]
 have e1:(cur.toList.take n).take m=cur.toList.take m:=by rw [List.take_take,Nat.min_eq_left hm]
 rw[← e1,h7]
 unfold fints
 rw[← List.map_take,List.take_range,Nat.min_eq_left hm]
theorem limit_right {f:Nat→Int} {n:Nat} (hn:n≤288) (hf:∀ i,0≤f i∧f i≤12000):LimitRight f n ((15:Nat):Int):=by
 refine⟨hn,by omega,by omega,fun i _=>hf i,?_⟩
 have:=cN_le (fun i=>decide (f i≠0)) n
 unfold posN
 rw[show ((15:Nat):Int).toNat=15 from rfl,show (2:Int) ^ 15=32768 by decide]
 omega
def lenA (L:List Tok):Nat→Int:=limLen (cntA L) 286 15
def lenB (L:List Tok):Nat→Int:=limLen (cntB L) 30 15
def sizeA (L:List Tok):Nat:=trimN (lenA L) 257 286
def sizeB (L:List Tok):Nat:=trimN (lenB L) 1 30
def TokLenAnswer : Prop := ∀ (a : Option Addr) (c : Nat) (L : List Tok) (w : World), TCame w a L.length (fun j => L.getD j (0, 0, 0)) → L.length ≤ 1048576 →
    (TokensRight L → Calls Tryz.prog 132 #[.slice a L.length c] w fun e w' => ∃ a1 c1 a2 c2, e = .returned (.tuple #[.slice a1 (sizeA L) c1, .slice a2 (sizeB L) c2, .bool true]) ∧ SL w' w.heap.size a1 (sizeA L) c1 (lenA L) ∧ SL w' w.heap.size a2 (sizeB L) c2 (lenB L) ∧ a1 ≠ a2 ∧ Below w.heap.size w w') ∧
    (¬ TokensRight L → Calls Tryz.prog 132 #[.slice a L.length c] w fun e w' => e = .returned (.tuple #[.slice none 0 0, .slice none 0 0, .bool false]) ∧ Below w.heap.size w w')
end Go.Proofs.YtklpiihnbokkkaaGreatDoor

namespace Go.Proofs.YtklpiihnbokkkaaGreatDoor
namespace WovenMath
open OutMath TokMath StepMath CodeMath PackageMath RunsMath InfMath TrimMath TokLenMath BlockMath PartMath BodyMath
theorem room_ones (f:Nat→Int):∀ n,room (fun i=>if f i=0 then 0 else 1) n=16384 * (posN f n:Int)
 | 0=>rfl
 | n+1=>by
  have ih:=room_ones f n
  have e:posN f (n+1)=posN f n+(if decide (f n≠0)=true then 1 else 0):=rfl
  show room (fun i=>if f i=0 then 0 else 1) n+(if 0 < (if f n=0 then (0:Int) else 1) then p2 (15 - (if f n=0 then (0:Int) else 1)).toNat else 0)=_
  rw[ih,e]
  by_cases h:f n=0
  ·rw[if_pos h,if_neg (by omega),if_neg (by simp [h])]
   omega
  ·rw[if_neg h,if_pos (by omega),if_pos (by simp [h]),show p2 ((15:Int) - 1).toNat=16384 by decide +kernel]
   omega
theorem room_zero {f:Nat→Int} (h:∀ i,f i=0):∀ n,room f n=0
 | 0=>rfl
 | n+1=>by
  show room f n+(if 0 < f n then _ else 0)=0
  rw[room_zero h n,h n,if_neg (by omega)]
  rfl
section
variable {f:Nat→Int} {n:Nat} {z:Int}
theorem lim_room (hR:LimitRight f n z):room (limLen f n z) n≤32768:=by
 by_cases h0:posN f n=0
 ·rw[room_zero (fun i=>(lim_none h0 i).symm) n]
  omega
 ·by_cases h1:posN f n=1
  ·have e:limLen f n z=fun i=>if f i=0 then 0 else 1:=by
    funext i
    unfold limLen
    rw[if_neg h0,if_pos h1]
   rw[e,room_ones,h1]
   omega
  ·rw[lim_whole hR (by omega)]
   omega
theorem lim_coded (hR:LimitRight f n z) {m:Nat} (hm:m≤n):Coded (limLen f n z) m:=by
 refine⟨by have:=hR.1; omega,fun i hi=>?_,?_⟩
 ·have hs:=lim_shape hR i (by omega)
  have hz:=hR.2.2.1
  by_cases h:f i=0
  ·rw[hs.1 h]; omega
  ·have:=hs.2 h; omega
 ·obtain⟨d,rfl⟩:∃ d,n=m+d:=⟨n - m,by omega⟩
  have h1:=room_up (limLen f (m+d) z) m d
  have h2:=lim_room hR
  omega
end
theorem cntA_pos {L:List Tok} {t:Tok} (ht:t∈L):cntA L (sym1 t)≠0:=by
 unfold cntA
 have:0 < (L.filter fun u=>decide (sym1 u=sym1 t)).length:=List.length_pos_of_mem (List.mem_filter.mpr ⟨ht,by simp⟩)
 split <;> omega
theorem cntB_pos {L:List Tok} {t:Tok} (ht:t∈L) (hy:t.2.1≠0):cntB L (sym2 t)≠0:=by
 unfold cntB
 have:0 < (L.filter fun u=>decide (u.2.1≠0∧sym2 u=sym2 t)).length:=List.length_pos_of_mem (List.mem_filter.mpr ⟨ht,by simp [hy]⟩)
 omega
section
variable {L:List Tok}
theorem limA (h:TokensRight L):LimitRight (cntA L) 286 15:=limit_right (n:=286) (by omega) (fun i=>cntA_le h.2 h.1 i)
theorem limB (h:TokensRight L):LimitRight (cntB L) 30 15:=limit_right (n:=30) (by omega) (fun i=>cntB_le h.1 i)
theorem sizeA_bd (L:List Tok):257≤sizeA L∧sizeA L≤286:=⟨trimN_ge _ 257 286 (by omega),trimN_le _ _ _⟩
theorem sizeB_bd (L:List Tok):1≤sizeB L∧sizeB L≤30:=⟨trimN_ge _ 1 30 (by omega),trimN_le _ _ _⟩
theorem codedA (h:TokensRight L):Coded (lenA L) (sizeA L):=lim_coded (limA h) (sizeA_bd L).2
theorem codedB (h:TokensRight L):Coded (lenB L) (sizeB L):=lim_coded (limB h) (sizeB_bd L).2
theorem woven_body (h:TokensRight L):BodyOk (lenA L) (sizeA L) (lenB L) (sizeB L) L where
 c1:=codedA h
 e1:=by have:=(sizeA_bd L).1; omega
 m2:=by have:=(sizeB_bd L).2; omega
 w2:=(codedB h).2.1
 right:=h.2
 s1:=fun t ht=>by
  rcases Nat.lt_or_ge (sym1 t) (sizeA L) with q | q
  ·exact q
  ·have hl:=(sym1_lt (h.2 t ht)).1
   have h0:=trimN_out (lenA L) 257 286 (sym1 t) q hl
   have h1:=(lim_shape (limA h) (sym1 t) hl).2 (cntA_pos ht)
   have h2:limLen (cntA L) 286 15 (sym1 t)=0:=h0
   omega
 s2:=fun t ht hy=>by
  refine⟨codedB h,?_⟩
  rcases Nat.lt_or_ge (sym2 t) (sizeB L) with q | q
  ·exact q
  ·have hT:=h.2 t ht
   have hl:sym2 t < 30:=by
    obtain⟨x,y,z⟩:=t
    unfold TokRight at hT
    rw[if_neg hy] at hT
    have:=dist_range (z:=z) hT.2.2
    unfold sym2
    simp only []
    omega
   have h0:=trimN_out (lenB L) 1 30 (sym2 t) q hl
   have h1:=(lim_shape (limB h) (sym2 t) hl).2 (cntB_pos ht hy)
   have h2:limLen (cntB L) 30 15 (sym2 t)=0:=h0
   omega
end
def fC (L:List Tok) (i:Nat):Int:=if i < sizeA L then lenA L i else lenB L (i - sizeA L)
def nC (L:List Tok):Nat:=sizeA L+sizeB L
theorem nC_le (L:List Tok):nC L≤316:=by
 have h1:=(sizeA_bd L).2
 have h2:=(sizeB_bd L).2
 unfold nC
 omega
theorem fineC {L:List Tok} (h:TokensRight L):Fine (fC L) (nC L):=by
 intro i hi
 unfold fC
 split
 ·rename_i q
  exact (codedA h).2.1 i q
 ·exact (codedB h).2.1 _ (by unfold nC at hi; omega)
def runsW (L:List Tok):List (Int×Int):=rest (fC L) (nC L) 0
theorem runsW_length (L:List Tok):(runsW L).length≤316:=by
 have h1:=rest_length (fC L) (nC L) _ 0 rfl
 have h2:=nC_le L
 unfold runsW
 omega
theorem runAt_sym {f:Nat→Int} {n i:Nat} (hf:Fine f n) (hi:i < n):0≤(runAt f n i).1.1∧(runAt f n i).1.1≤18:=by
 have h3:=hf i hi
 unfold runAt
 split
 ·show (0:Int)≤18∧(18:Int)≤18
  omega
 ·split
  ·show (0:Int)≤17∧(17:Int)≤18
   omega
  ·split
   ·show (0:Int)≤16∧(16:Int)≤18
    omega
   ·show 0≤f i∧f i≤18
    omega
theorem rest_sym {f:Nat→Int} {n:Nat} (hf:Fine f n):∀ d i,n - i=d→∀ r∈rest f n i,0≤r.1∧r.1≤18:=by
 intro d
 induction d using Nat.strongRecOn with
 | ind d ih=>
  intro i hd r hr
  by_cases h:i < n
  ·rw[rest_more h] at hr
   rcases List.mem_cons.mp hr with rfl | hr
   ·exact runAt_sym hf h
   ·have hp:=runAt_pos f n i
    exact ih (n - (i+(runAt f n i).2)) (by omega) _ rfl r hr
  ·rw[rest_none h] at hr
   cases hr
def cntR (R:List (Int×Int)) (i:Nat):Int:=((R.filter fun r=>decide (r.1.toNat=i)).length:Int)
theorem cntR_bd (R:List (Int×Int)) (i:Nat):0≤cntR R i∧cntR R i≤R.length:=by
 unfold cntR
 have:=List.length_filter_le (fun r:Int×Int=>decide (r.1.toNat=i)) R
 omega
theorem cntR_pos {R:List (Int×Int)} {r:Int×Int} (h:r∈R):cntR R r.1.toNat≠0:=by
 unfold cntR
 have:0 < (R.filter fun u=>decide (u.1.toNat=r.1.toNat)).length:=List.length_pos_of_mem (List.mem_filter.mpr ⟨h,by simp⟩)
 omega
theorem cntR_snoc (R:List (Int×Int)) (r:Int×Int) (i:Nat):upd (cntR R) r.1.toNat (cntR R r.1.toNat+1) i=cntR (R ++ [r]) i:=by
 unfold upd cntR
 rw[List.filter_append,List.length_append]
 by_cases h:i=r.1.toNat
 ·subst h
  rw[if_pos rfl]
  simp
 ·rw[if_neg h]
  have:¬ r.1.toNat=i:=fun e=>h e.symm
  simp[this]
theorem limR {R:List (Int×Int)} (hR:R.length≤316):LimitRight (cntR R) 19 7:=by
 refine⟨by omega,by omega,by omega,fun i _=>?_,?_⟩
 ·have:=cntR_bd R i
  omega
 ·have:=cN_le (fun i=>decide (cntR R i≠0)) 19
  unfold posN
  rw[show (7:Int).toNat=7 from rfl,show (2:Int) ^ 7=128 by decide]
  omega
def th0 (R:List (Int×Int)):Nat→Int:=limLen (cntR R) 19 7
def third (R:List (Int×Int)):Nat→Int:=if kindOf (th0 R) 19=3 then (if th0 R 0=0 then upd (th0 R) 0 1 else upd (th0 R) 1 1) else th0 R
theorem room_upd {g:Nat→Int} {j:Nat} (h:g j=0):∀ n,room (upd g j 1) n=room g n+(if j < n then 16384 else 0)
 | 0=>rfl
 | n+1=>by
  have ih:=room_upd h n
  show room (upd g j 1) n+(if 0 < upd g j 1 n then p2 (15 - upd g j 1 n).toNat else 0)=room g n+(if 0 < g n then p2 (15 - g n).toNat else 0)+_
  rw[ih]
  by_cases e:n=j
  ·subst e
   have e1:upd g n 1 n=1:=if_pos rfl
   rw[e1,h,if_neg (show ¬ n < n by omega),if_pos (show (0:Int) < 1 by omega),if_neg (show ¬ (0:Int) < 0 by omega),if_pos (show n < n+1 by omega),show p2 ((15:Int) - 1).toNat=16384 by decide +kernel]
   try omega
  ·have e1:upd g j 1 n=g n:=if_neg e
   rw[e1]
   by_cases q:j < n
   ·rw[if_pos q,if_pos (show j < n+1 by omega)]
    omega
   ·rw[if_neg q,if_neg (show ¬ j < n+1 by omega)]
    omega
theorem cnt_mono (g:Nat→Int) (a:Nat):∀ d,CodeMath.cnt g a≤CodeMath.cnt g (a+d)
 | 0=>Int.le_refl _
 | d+1=>by
  have:=cnt_mono g a d
  show _≤CodeMath.cnt g (a+d)+(if 0 < g (a+d) then 1 else 0)
  split <;> omega
theorem third_single {R:List (Int×Int)} (_hR:R.length≤316) (hk:kindOf (th0 R) 19=3):CodeMath.cnt (th0 R) 19=1∧room (th0 R) 19=16384:=by
 unfold kindOf at hk
 split at hk
 ·omega
 ·split at hk
  ·omega
  ·split at hk
   ·omega
   ·split at hk
    ·assumption
    ·omega
theorem th0_ok {R:List (Int×Int)} (hR:R.length≤316) (i:Nat) (hi:i < 19):0≤th0 R i∧th0 R i≤7:=by
 have hs:=lim_shape (limR hR) i hi
 by_cases h:cntR R i=0
 ·have:=hs.1 h
  unfold th0
  omega
 ·have:=hs.2 h
  unfold th0
  omega
theorem third_ok {R:List (Int×Int)} (hR:R.length≤316) (i:Nat) (hi:i < 19):0≤third R i∧third R i≤7:=by
 have h0:=th0_ok hR i hi
 unfold third
 split
 ·split
  ·unfold upd
   split <;> omega
  ·unfold upd
   split <;> omega
 ·exact h0
theorem third_coded {R:List (Int×Int)} (hR:R.length≤316):Coded (third R) 19:=by
 refine⟨by omega,fun i hi=>by have:=third_ok hR i hi; omega,?_⟩
 have hl:=lim_room (limR hR)
 unfold third
 split
 ·rename_i hk
  obtain⟨hc,hr⟩:=third_single hR hk
  split
  ·rename_i h0
   rw[room_upd h0,hr,if_pos (by omega)]
   omega
  ·rename_i h0
   have h1:th0 R 1=0:=by
    have hm:=cnt_mono (th0 R) 2 17
    rw[show 2+17=19 from rfl,hc] at hm
    have e2:CodeMath.cnt (th0 R) 2=(0+(if 0 < th0 R 0 then 1 else 0))+(if 0 < th0 R 1 then 1 else 0):=rfl
    rw[e2] at hm
    have a0:=th0_ok hR 0 (by omega)
    have a1:=th0_ok hR 1 (by omega)
    rw[if_pos (by omega)] at hm
    split at hm
    ·omega
    ·omega
   rw[room_upd h1,hr,if_pos (by omega)]
   omega
 ·exact hl
theorem third_has {R:List (Int×Int)} (hR:R.length≤316) {r:Int×Int} (hr:r∈R) (h18:0≤r.1∧r.1≤18):0 < third R r.1.toNat:=by
 have hs:=(lim_shape (limR hR) r.1.toNat (by omega)).2 (cntR_pos hr)
 have h1:0 < th0 R r.1.toNat:=by unfold th0; omega
 unfold third
 split
 ·split
  ·unfold upd
   split <;> omega
  ·unfold upd
   split <;> omega
 ·exact h1
def toldF (R:List (Int×Int)) (i:Nat):Int:=third R (orderL.getD i 0)
def toldN (R:List (Int×Int)):Nat:=trimN (toldF R) 4 19
theorem toldN_bd (R:List (Int×Int)):4≤toldN R∧toldN R≤19:=⟨trimN_ge _ 4 19 (by omega),trimN_le _ _ _⟩
def toldP (R:List (Int×Int)):List Part:=(List.range (toldN R)).map fun i=>(toldF R i,3,false)
def runP (R:List (Int×Int)) (r:Int×Int):List Part:=[codeP (third R) 19 r.1.toNat,(r.2,bitsOf r.1,false)]
def runsP (R Q:List (Int×Int)):List Part:=Q.flatMap (runP R)
def wovenHead (L:List Tok):List Part:=[((sizeA L:Int) - 257,5,false),((sizeB L:Int) - 1,5,false),((toldN (runsW L):Int) - 4,4,false)]
def lensP (L:List Tok):List Part:=wovenHead L ++ toldP (runsW L) ++ runsP (runsW L) (runsW L)
def wovenOut (s:ByteArray) (c:Int) (L:List Tok) (last:Bool):Option (ByteArray×Nat):=
 if TokensRight L then (outSt s c).bind fun o=>bitsOut o (headBits 2 last ++ (partBits (lensP L) ++ bodyBits (lenA L) (sizeA L) (lenB L) (sizeB L) L)) else none
theorem order_lt (i:Nat):orderL.getD i 0 < 19:=by
 rcases Nat.lt_or_ge i 19 with h | h
 ·have:∀ j,j < 19→orderL.getD j 0 < 19:=by decide +kernel
  exact this i h
 ·rw[List.getD_eq_getElem?_getD,List.getElem?_eq_none (by simpa [orderL] using h)]
  decide
theorem lensP_right {L:List Tok} (h:TokensRight L):∀ p∈lensP L,Right p:=by
 intro p hp
 have hA:=sizeA_bd L
 have hB:=sizeB_bd L
 have hT:=toldN_bd (runsW L)
 have hl:=runsW_length L
 rcases List.mem_append.mp hp with hp | hp
 ·rcases List.mem_append.mp hp with hp | hp
  ·unfold wovenHead at hp
   simp only [List.mem_cons,List.not_mem_nil,or_false] at hp
   rcases hp with rfl | rfl | rfl
   ·refine⟨?_,?_,?_⟩ <;> simp only [] <;> omega
   ·refine⟨?_,?_,?_⟩ <;> simp only [] <;> omega
   ·refine⟨?_,?_,?_⟩ <;> simp only [] <;> omega
  ·obtain⟨i,_,rfl⟩:=List.mem_map.mp hp
   have:=third_ok hl (orderL.getD i 0) (order_lt i)
   refine⟨this.1,?_,?_⟩
   ·show third _ _≤16777216
    omega
   ·show 3≤24
    omega
 ·obtain⟨r,hr,hp⟩:=List.mem_flatMap.mp hp
  have hs:=rest_sym (fineC h) _ 0 rfl r hr
  have hx:=rest_fine (fineC h) _ 0 rfl r hr
  unfold runP at hp
  rcases List.mem_cons.mp hp with rfl | hp
  ·exact codeP_right (third_coded hl) (by omega)
  ·rw[List.mem_singleton] at hp
   subst hp
   have hb:bitsOf r.1≤7:=by
    unfold bitsOf
    split
    ·omega
    ·split
     ·omega
     ·split <;> omega
   have hpw:(2:Int) ^ bitsOf r.1≤128:=by
    have:∀ m:Nat,m≤7→(2:Int) ^ m≤128:=by decide +kernel
    exact this _ hb
   refine⟨hx.1,?_,?_⟩ <;> simp only [] <;> omega
end WovenMath
end Go.Proofs.YtklpiihnbokkkaaGreatDoor

namespace Go.Proofs.YtklpiihnbokkkaaGreatDoor
open Go.RowKit Go.Joins InfMath
def OrderG (w:World):Prop:=1 < w.heap.size∧∀ i,i < 19→w.cell? ⟨1,i,none⟩=some (.int .i64 ((orderL.getD i 0:Nat):Int))
theorem OrderG.below {B:Nat} {w w':World} (h:OrderG w) (hb:Below B w w') (hB:1 < B):OrderG w':=
 ⟨Nat.lt_of_lt_of_le h.1 hb.size,fun i hi=>(World.cell?_of_block (a:=⟨1,i,none⟩) (hb.block _ hB)).trans (h.2 i hi)⟩
end Go.Proofs.YtklpiihnbokkkaaGreatDoor

namespace Go.Proofs.YtklpiihnbokkkaaGreatDoor
open Go.RowKit TokMath WovenMath
def better:Option (ByteArray×Nat)→Option (ByteArray×Nat)→Option (ByteArray×Nat)
 | o,none=>o
 | none,some y=>some y
 | some x,some y=>if y.2 < x.2 then some y else some x
def bestOut (s:ByteArray) (c:Int) (t:ByteArray) (L:List Tok) (last:Bool):Option (ByteArray×Nat):=
 better (better (better none (storedOut s c t last)) (fixedOut s c L last)) (wovenOut s c L last)
def BestBlockAnswer:Prop:=∀ (s:ByteArray) (c:Int) (t:ByteArray) (a:Option Addr) (cp:Nat) (L:List Tok) (last:Bool) (w:World),s.size≤1048576→-9223372036854775808≤c→c≤9223372036854775807→t.size≤1048576→TCame w a L.length (fun j=>L.getD j (0,0,0))→L.length≤1048576→OrderG w→
 Calls Tryz.prog 54 #[.agg #[.string s,.int .i64 c],.string t,.slice a L.length cp,.bool last] w fun e w'=>e=.returned (blkAns (bestOut s c t L last))∧Below w.heap.size w w'
def blkB:Option (ByteArray×Nat)→Bool
 | some _=>true
 | none=>false
def blkS:Option (ByteArray×Nat)→ByteArray
 | some o=>o.1
 | none=>⟨#[]⟩
def blkN:Option (ByteArray×Nat)→Int
 | some o=>(o.2:Int)
 | none=>0
theorem blkAns_parts (o:Option (ByteArray×Nat)):blkAns o=.tuple #[.agg #[.string (blkS o),.int .i64 (blkN o)],.bool (blkB o)]:=by
 cases o <;> rfl
end Go.Proofs.YtklpiihnbokkkaaGreatDoor

namespace Go.Proofs.YtklpiihnbokkkaaGreatDoor.SearchMath
open TokMath
section
variable (f:Nat→Nat) (N:Nat)
def Three (a b:Nat):Prop:=b+2 < N∧f a=f b∧f (a+1)=f (b+1)∧f (a+2)=f (b+2)
instance (a b:Nat):Decidable (Three f N a b):=by unfold Three; exact inferInstance
def common:Nat→Nat→Nat→Nat
 | _,_,0=>0
 | a,b,m+1=>if b < N∧f a=f b then common (a+1) (b+1) m+1 else 0
def places (at':Nat):Nat→List Nat
 | 0=>[]
 | k+1=>if Three f N k at' then k :: places at' k else places at' k
def pick (at':Nat):List Nat→Nat→Nat→Nat×Nat
 | [],b,d=>(b,d)
 | k :: r,b,d=>if b < common f N k at' 258 then pick at' r (common f N k at' 258) (at' - k) else pick at' r b d
def bestM (at' chain:Nat):Nat×Nat:=pick f N at' ((places f N at' at').take chain) 0 0
def RepOk (at' n d:Nat):Prop:=(3≤n∧n≤258)∧(1≤d∧d≤at')∧at'+n≤N∧∀ i,i < n→f (at'+i)=f (at'+i - d)
end
section
variable {f:Nat→Nat} {N:Nat}
theorem common_le:∀ m a b,common f N a b m≤m
 | 0,_,_=>Nat.le_refl _
 | m+1,a,b=>by
  unfold common
  split
  ·have:=common_le m (a+1) (b+1)
   omega
  ·omega
theorem common_same:∀ m a b i,i < common f N a b m→b+i < N∧f (a+i)=f (b+i)
 | 0,_,_,i,h=>by
  have:i < 0:=h
  omega
 | m+1,a,b,i,h=>by
  unfold common at h
  split at h
  ·rename_i q
   cases i with
   | zero=>exact q
   | succ i=>
    have:=common_same m (a+1) (b+1) i (by omega)
    rw[show a+(i+1)=a+1+i by omega,show b+(i+1)=b+1+i by omega]
    exact this
  ·omega
theorem common_stop:∀ m a b,common f N a b m=m∨¬ (b+common f N a b m < N∧f (a+common f N a b m)=f (b+common f N a b m))
 | 0,_,_=>.inl rfl
 | m+1,a,b=>by
  unfold common
  split
  ·rcases common_stop m (a+1) (b+1) with h | h
   ·exact .inl (by rw [h])
   ·right
    rw[show b+(common f N (a+1) (b+1) m+1)=b+1+common f N (a+1) (b+1) m by omega,show a+(common f N (a+1) (b+1) m+1)=a+1+common f N (a+1) (b+1) m by omega]
    exact h
  ·rename_i q
   exact .inr q
theorem common_eq {m a b n:Nat} (hn:n≤m) (h:∀ i,i < n→b+i < N∧f (a+i)=f (b+i)) (hs:n=m∨¬ (b+n < N∧f (a+n)=f (b+n))):common f N a b m=n:=by
 have h1:=common_le (f:=f) (N:=N) m a b
 rcases Nat.lt_trichotomy (common f N a b m) n with k | k | k
 ·rcases common_stop (f:=f) (N:=N) m a b with q | q
  ·omega
  ·exact absurd (h _ k) q
 ·exact k
 ·rcases hs with q | q
  ·omega
  ·exact absurd (common_same m a b n k) q
theorem three_common {a b:Nat} (h:Three f N a b):3≤common f N a b 258:=by
 obtain⟨h1,h2,h3,h4⟩:=h
 rcases Nat.lt_or_ge (common f N a b 258) 3 with k | k
 ·rcases common_stop (f:=f) (N:=N) 258 a b with q | q
  ·omega
  ·have key:∀ i,i < 3→b+i < N∧f (a+i)=f (b+i):=by
    intro i hi
    match i,hi with
    | 0,_=>exact⟨by omega,h2⟩
    | 1,_=>exact⟨by omega,h3⟩
    | 2,_=>exact⟨by omega,h4⟩
   exact absurd (key _ k) q
 ·exact k
theorem places_mem {at':Nat}:∀ {K k:Nat},k∈places f N at' K→k < K∧Three f N k at'
 | 0,_,h=>by cases h
 | K+1,k,h=>by
  unfold places at h
  split at h
  ·rename_i q
   rcases List.mem_cons.mp h with rfl | h
   ·exact⟨Nat.lt_succ_self _,q⟩
   ·have:=places_mem h
    exact⟨by omega,this.2⟩
  ·have:=places_mem h
   exact⟨by omega,this.2⟩
def Best (f:Nat→Nat) (N at':Nat) (p:Nat×Nat):Prop:=p=(0,0)∨∃ k,k < at'∧Three f N k at'∧p=(common f N k at' 258,at' - k)
theorem pick_best {at':Nat}:∀ (l:List Nat) (b d:Nat),(∀ k∈l,k < at'∧Three f N k at')→Best f N at' (b,d)→Best f N at' (pick f N at' l b d)
 | [],_,_,_,h=>h
 | k :: r,b,d,hl,h=>by
  unfold pick
  split
  ·exact pick_best r _ _ (fun k' hk=>hl k' (List.mem_cons_of_mem _ hk)) (.inr ⟨k,(hl k (List.mem_cons_self ..)).1,(hl k (List.mem_cons_self ..)).2,rfl⟩)
  ·exact pick_best r _ _ (fun k' hk=>hl k' (List.mem_cons_of_mem _ hk)) h
theorem best_is (at' chain:Nat):Best f N at' (bestM f N at' chain):=
 pick_best _ 0 0 (fun _ hk=>places_mem (List.mem_of_mem_take hk)) (.inl rfl)
theorem best_fact (at' chain:Nat):bestM f N at' chain=(0,0)∨(RepOk f N at' (bestM f N at' chain).1 (bestM f N at' chain).2∧((bestM f N at' chain).1=258∨at'+(bestM f N at' chain).1=N∨f (at'+(bestM f N at' chain).1)≠f (at'+(bestM f N at' chain).1 - (bestM f N at' chain).2))):=by
 rcases best_is (f:=f) (N:=N) at' chain with h | ⟨k,hk,h3,h⟩
 ·exact .inl h
 ·right
  rw[h]
  show RepOk f N at' (common f N k at' 258) (at' - k)∧(common f N k at' 258=258∨at'+common f N k at' 258=N∨f (at'+common f N k at' 258)≠f (at'+common f N k at' 258 - (at' - k)))
  have c1:=common_le (f:=f) (N:=N) 258 k at'
  have c2:=three_common h3
  have c3:=common_same (f:=f) (N:=N) 258 k at'
  have c4:=common_stop (f:=f) (N:=N) 258 k at'
  generalize common f N k at' 258=n at *
  refine⟨⟨⟨c2,c1⟩,⟨by omega,by omega⟩,?_,fun i hi=>?_⟩,?_⟩
  ·have:=(c3 (n - 1) (by omega)).1
   omega
  ·rw[show at'+i - (at' - k)=k+i by omega]
   exact (c3 i hi).2.symm
  ·rcases c4 with q | q
   ·exact .inl q
   ·right
    rw[show at'+n - (at' - k)=k+n by omega]
    have:=(c3 (n - 1) (by omega)).1
    rcases Nat.lt_or_ge (at'+n) N with hl | hl
    ·right
     intro e
     exact q ⟨hl,e.symm⟩
    ·left
     omega
theorem best_rep {at' chain:Nat} (h:(bestM f N at' chain).1≠0):RepOk f N at' (bestM f N at' chain).1 (bestM f N at' chain).2:=by
 rcases best_fact (f:=f) (N:=N) at' chain with q | q
 ·rw[q] at h
  exact absurd rfl h
 ·exact q.1
end
/-! Ways through a text. -/
def sizeT (t:Tok):Nat:=if t.2.1=0 then 1 else t.2.1.toNat
theorem size_byte (x z:Int):sizeT (x,0,z)=1:=rfl
theorem size_rep {k:Nat} (x z:Int) (h:k≠0):sizeT (x,(k:Int),z)=k:=by
 unfold sizeT
 rw[if_neg (show ¬ ((k:Int)=0) by omega)]
 rfl
def wayF (c:Nat→Tok) (N:Nat):Nat→Nat→List Tok
 | 0,_=>[]
 | m+1,at'=>if at' < N then c at' :: wayF c N m (at'+sizeT (c at')) else []
def wayL (c:Nat→Tok) (N at':Nat):List Tok:=wayF c N (N - at') at'
section
variable {c:Nat→Tok} {N:Nat}
theorem way_end {at':Nat} (h:N≤at'):wayL c N at'=[]:=by
 unfold wayL
 rw[show N - at'=0 by omega]
 rfl
theorem wayF_fuel (hc:∀ i,i < N→1≤sizeT (c i)):∀ m at',N - at'≤m→wayF c N m at'=wayF c N (N - at') at'
 | 0,at',h=>by rw [show N - at'=0 by omega]
 | m+1,at',h=>by
  by_cases hl:at' < N
  ·have h1:=hc at' hl
   obtain⟨q,hq⟩:∃ q,N - at'=q+1:=⟨N - at' - 1,by omega⟩
   rw[hq]
   show (if at' < N then c at' :: wayF c N m (at'+sizeT (c at')) else [])=(if at' < N then c at' :: wayF c N q (at'+sizeT (c at')) else [])
   rw[if_pos hl,if_pos hl,wayF_fuel hc m _ (by omega),wayF_fuel hc q _ (by omega)]
  ·rw[show N - at'=0 by omega]
   show (if at' < N then _ else [])=[]
   rw[if_neg hl]
termination_by m=>m
decreasing_by
 all_goals omega
theorem way_step (hc:∀ i,i < N→1≤sizeT (c i)) {at':Nat} (h:at' < N):wayL c N at'=c at' :: wayL c N (at'+sizeT (c at')):=by
 have h1:=hc at' h
 unfold wayL
 obtain⟨q,hq⟩:∃ q,N - at'=q+1:=⟨N - at' - 1,by omega⟩
 rw[hq]
 show (if at' < N then c at' :: wayF c N q (at'+sizeT (c at')) else [])=_
 rw[if_pos h,wayF_fuel hc q _ (by omega)]
end
def pre (f:Nat→Nat) (n:Nat):List Int:=(List.range n).map fun i=>(f i:Int)
section
variable {f:Nat→Nat} {N:Nat}
theorem pre_length (n:Nat):(pre f n).length=n:=by simp [pre]
theorem pre_succ (n:Nat):pre f (n+1)=pre f n ++ [(f n:Int)]:=by
 unfold pre
 rw[List.range_succ,List.map_append]
 rfl
theorem pre_get {n i:Nat} (h:i < n):(pre f n).getD i 0=(f i:Int):=by
 unfold pre
 rw[List.getD_eq_getElem?_getD,List.getElem?_map,List.getElem?_range h]
 rfl
theorem copy_pre' {d at':Nat} (h1:1≤d) (h2:d≤at'):∀ k,(∀ i,i < k→f (at'+i)=f (at'+i - d))→copyN d k (pre f at')=pre f (at'+k)
 | 0,_=>rfl
 | k+1,h=>by
  rw[copy_snoc,copy_pre' h1 h2 k (fun i hi=>h i (by omega)),pre_length,pre_get (by omega),← h k (Nat.lt_succ_self k),← pre_succ]
  rfl
def Fine (f:Nat→Nat) (N at':Nat) (t:Tok):Prop:=t=((f at':Int),0,0)∨∃ k d:Nat,t=(0,(k:Int),(d:Int))∧RepOk f N at' k d
theorem fine_size {at':Nat} {t:Tok} (h:Fine f N at' t) (hl:at' < N):1≤sizeT t∧at'+sizeT t≤N:=by
 rcases h with rfl | ⟨k,d,rfl,h1,_,h3,_⟩
 ·exact⟨Nat.le_refl _,hl⟩
 ·rw[size_rep _ _ (by omega)]
  omega
theorem fine_right {at':Nat} {t:Tok} (hf:∀ i,f i < 256) (hN:N≤32768) (h:Fine f N at' t):TokRight t:=by
 rcases h with rfl | ⟨k,d,rfl,h1,h2,h3,_⟩
 ·have:=hf at'
  exact⟨⟨by show (0:Int)≤(f at':Int); omega,by show (f at':Int)≤255; omega⟩,rfl⟩
 ·unfold TokRight
  rw[if_neg (show ¬ ((k:Int)=0) by omega)]
  exact⟨rfl,⟨by show (3:Int)≤(k:Int); omega,by show (k:Int)≤258; omega⟩,by show (1:Int)≤(d:Int); omega,by show (d:Int)≤32768; omega⟩
theorem fine_app {at':Nat} {t:Tok} (h:Fine f N at' t):tokApp (pre f at') t=pre f (at'+sizeT t)∧t.2.2≤((pre f at').length:Int):=by
 rcases h with rfl | ⟨k,d,rfl,h1,h2,_,h4⟩
 ·rw[size_byte,pre_succ]
  exact⟨rfl,by show (0:Int)≤_; omega⟩
 ·rw[size_rep _ _ (by omega)]
  constructor
  ·unfold tokApp
   rw[if_neg (show ¬ ((k:Int)=0) by omega)]
   exact copy_pre' h2.1 h2.2 k h4
  ·rw[pre_length]
   show (d:Int)≤(at':Int)
   omega
theorem run_way {c:Nat→Tok} (hf:∀ i,f i < 256) (hN:N≤32768) (hc:∀ i,i < N→Fine f N i (c i)):∀ m at',N - at'=m→at'≤N→run (pre f at') (wayL c N at')=some (pre f N):=by
 intro m
 induction m using Nat.strongRecOn with
 | _ m ih=>
  intro at' hm hl
  by_cases h:at' < N
  ·have h1:=fine_size (hc at' h) h
   have h2:=fine_app (hc at' h)
   rw[way_step (fun i hi=>(fine_size (hc i hi) hi).1) h]
   unfold run
   rw[if_pos ⟨fine_right hf hN (hc at' h),h2.2⟩,h2.1]
   exact ih _ (by omega) _ rfl h1.2
  ·rw[way_end (by omega),show at'=N by omega]
   rfl
theorem way_all {c:Nat→Tok} (hf:∀ i,f i < 256) (hN:N≤32768) (hc:∀ i,i < N→Fine f N i (c i)):run [] (wayL c N 0)=some (pre f N):=run_way hf hN hc N 0 rfl (Nat.zero_le _)
theorem way_length {c:Nat→Tok} (hc:∀ i,i < N→1≤sizeT (c i)):∀ m at',N - at'=m→(wayL c N at').length≤N - at':=by
 intro m
 induction m using Nat.strongRecOn with
 | _ m ih=>
  intro at' hm
  by_cases h:at' < N
  ·have h1:=hc at' h
   rw[way_step hc h,List.length_cons]
   have:=ih (N - (at'+sizeT (c at'))) (by omega) (at'+sizeT (c at')) rfl
   omega
  ·rw[way_end (by omega)]
   exact Nat.zero_le _
end
def greedyC (f:Nat→Nat) (N chain:Nat) (at':Nat):Tok:=if (bestM f N at' chain).1=0 then ((f at':Int),0,0) else (0,((bestM f N at' chain).1:Int),((bestM f N at' chain).2:Int))
def lazyC (f:Nat→Nat) (N chain:Nat) (at':Nat):Tok:=if (bestM f N at' chain).1=0∨(bestM f N at' chain).1 < (bestM f N (at'+1) chain).1 then ((f at':Int),0,0) else (0,((bestM f N at' chain).1:Int),((bestM f N at' chain).2:Int))
theorem greedy_fine (f:Nat→Nat) (N chain at':Nat):Fine f N at' (greedyC f N chain at'):=by
 unfold greedyC
 split
 ·exact .inl rfl
 ·rename_i h
  exact .inr ⟨_,_,rfl,best_rep h⟩
theorem lazy_fine (f:Nat→Nat) (N chain at':Nat):Fine f N at' (lazyC f N chain at'):=by
 unfold lazyC
 split
 ·exact .inl rfl
 ·rename_i h
  exact .inr ⟨_,_,rfl,best_rep (fun e=>h (.inl e))⟩
theorem best_none {f:Nat→Nat} {N at' chain:Nat} (h:N≤at'+2):bestM f N at' chain=(0,0):=by
 have key:∀ k,places f N at' k=[]:=by
  intro k
  induction k with
  | zero=>rfl
  | succ k ih=>
   unfold places
   rw[if_neg (fun q=>by have:=q.1; omega),ih]
 unfold bestM
 rw[key]
 simp[pick]
end Go.Proofs.YtklpiihnbokkkaaGreatDoor.SearchMath
