/-
  Texts of the proof, put together.
-/
import Derived.Test.YtklpiihnbokkkaaGreatDoorFk19
namespace Go.Proofs.YtklpiihnbokkkaaGreatDoor
section
open Go.RowKit Go.Joins Go.Sort RunsMath CodeMath
set_option maxHeartbeats 4000000 in
theorem right_any (s x:Int) (w:World):Calls Tryz.prog 206 #[.agg #[.int .i64 s,.int .i64 x]] w (RightPost s x w):=by
 by_cases h0:0≤s
 ·have d0:decide (0≤s)=true:=by simpa using h0
  by_cases h1:s≤18
  ·have d1:decide (s≤18)=true:=by simpa using h1
   by_cases h2:0≤x
   ·have d2:decide (0≤x)=true:=by simpa using h2
    obtain⟨m,hm⟩:∃ m,m=bitsOf s:=⟨_,rfl⟩
    have hc:=fun W=>extraBits_any s W
    rw[← hm] at hc
    have hm7:m≤7:=by rw [hm]; exact pow_bits s
    have HM:=hid_of hm
    clear hm
    go_enter Tryz.func206,Tryz.ntmps206
    go_wp2_with fail
    go_quiet ((go_at_call 177; exact Calls.quiet_of_same (hc _)))
    go_wp2_with fail
    go_ret
    refine⟨_,rfl,?_,grown_box _ _ _⟩
    first
     | rw [wrap_bits hm7]
     | rw [show Go.RowKit.wrap64 (2 ^ m)=2 ^ m from (show IntKind.i64.wrap ((2:Int) ^ m)=Go.RowKit.wrap64 ((2:Int) ^ m) from Go.IntWalk.i64_left ((2:Int) ^ m)).symm.trans (wrap_bits hm7)]
    rw[decide_eq_true_iff]
    unfold RightRun
    rw[← HM.out]
    exact⟨fun h=>⟨h0,h1,h2,h⟩,fun h=>h.2.2.2⟩
   ·have d2:decide (0≤x)=false:=by simpa using h2
    have HN:Hid (¬ RightRun s x):=fun h=>h2 h.2.2.1
    go_enter Tryz.func206,Tryz.ntmps206
    go_wp2_with fail
    go_quiet (fail)
    go_wp2_with fail
    go_ret
    exact⟨false,rfl,by simp [HN.out],grown_box _ _ _⟩
  ·have d1:decide (s≤18)=false:=by simpa using h1
   have HN:Hid (¬ RightRun s x):=fun h=>h1 h.2.1
   go_enter Tryz.func206,Tryz.ntmps206
   go_wp2_with fail
   go_quiet (fail)
   go_wp2_with fail
   go_ret
   exact⟨false,rfl,by simp [HN.out],grown_box _ _ _⟩
 ·have d0:decide (0≤s)=false:=by simpa using h0
  have HN:Hid (¬ RightRun s x):=fun h=>h0 h.1
  go_enter Tryz.func206,Tryz.ntmps206
  go_wp2_with fail
  go_quiet (fail)
  go_wp2_with fail
  go_ret
  exact⟨false,rfl,by simp [HN.out],grown_box _ _ _⟩
end
section
open Go.RowKit Go.Joins Go.Sort RunsMath
def lenOf (O:List Int) (s:Int):Int:=if s < 16 then s else if s=16 then O.getD (O.length - 1) 0 else 0
theorem tell_wrong {O:List Int} {s x:Int} (h:¬ RightRun s x):tell O (s,x)=none:=by
 unfold tell
 show (if s=16 then _ else if s=17 then _ else if s=18 then _ else if 0≤s∧s≤15∧x=0 then _ else _)=_
 split
 ·rename_i e
  subst e
  show (if 0≤x∧x≤3∧0 < O.length then _ else _)=_
  rw[if_neg]
  intro q
  exact h ⟨by omega,by omega,q.1,by show x < 2 ^ 2; omega⟩
 ·split
  ·rename_i e
   subst e
   show (if 0≤x∧x≤7 then _ else _)=_
   rw[if_neg]
   intro q
   exact h ⟨by omega,by omega,q.1,by show x < 2 ^ 3; omega⟩
  ·split
   ·rename_i e
    subst e
    show (if 0≤x∧x≤127 then _ else _)=_
    rw[if_neg]
    intro q
    exact h ⟨by omega,by omega,q.1,by show x < 2 ^ 7; omega⟩
   ·rename_i h1 h2 h3
    rw[if_neg]
    rintro⟨q1,q2,q3⟩
    refine h ⟨by omega,by omega,by omega,?_⟩
    unfold bitsOf
    rw[if_neg h1,if_neg h2,if_neg h3]
    show x < 1
    omega
theorem tell_first (x:Int):tell [] (16,x)=none:=by
 unfold tell
 rw[if_pos rfl,if_neg]
 rintro⟨_,_,q⟩
 exact Nat.lt_irrefl 0 q
theorem tell_right {O:List Int} {s x:Int} (h:RightRun s x) (h0:s=16→0 < O.length):tell O (s,x)=some (List.replicate (timesOf s x).toNat (lenOf O s)):=by
 obtain⟨r1,r2,r3,r4⟩:=h
 unfold tell timesOf lenOf
 show (if s=16 then (if 0≤x∧x≤3∧0 < O.length then some (List.replicate (3+x).toNat (O.getD (O.length - 1) 0)) else none) else if s=17 then (if 0≤x∧x≤7 then some (List.replicate (3+x).toNat 0) else none) else if s=18 then (if 0≤x∧x≤127 then some (List.replicate (11+x).toNat 0) else none) else if 0≤s∧s≤15∧x=0 then some [s] else none)=_
 by_cases e1:s=16
 ·subst e1
  have r5:x < 2 ^ 2:=r4
  rw[if_pos rfl,if_pos ⟨r3,by omega,h0 rfl⟩,if_pos rfl,if_neg (by omega),if_pos rfl]
 ·rw[if_neg e1,if_neg e1]
  by_cases e2:s=17
  ·subst e2
   have r5:x < 2 ^ 3:=r4
   rw[if_pos rfl,if_pos ⟨r3,by omega⟩,if_pos rfl,if_neg (by omega),if_neg (by omega)]
  ·rw[if_neg e2,if_neg e2]
   by_cases e3:s=18
   ·subst e3
    have r5:x < 2 ^ 7:=r4
    rw[if_pos rfl,if_pos ⟨r3,by omega⟩,if_pos rfl,if_neg (by omega),if_neg (by omega)]
   ·have r5:x < 1:=by
     unfold bitsOf at r4
     rw[if_neg e1,if_neg e2,if_neg e3] at r4
     exact r4
    rw[if_neg e3,if_neg e3,if_pos ⟨r1,by omega,by omega⟩,if_pos (by omega)]
    rfl
theorem times_bd {s x:Int} (h:RightRun s x):1≤timesOf s x∧timesOf s x≤138∧x≤1000:=by
 obtain⟨r1,r2,r3,r4⟩:=h
 unfold timesOf
 by_cases e1:s=16
 ·subst e1
  have r5:x < 2 ^ 2:=r4
  rw[if_pos rfl]
  omega
 ·rw[if_neg e1]
  by_cases e2:s=17
  ·subst e2
   have r5:x < 2 ^ 3:=r4
   rw[if_pos rfl]
   omega
  ·rw[if_neg e2]
   by_cases e3:s=18
   ·subst e3
    have r5:x < 2 ^ 7:=r4
    rw[if_pos rfl]
    omega
   ·have r5:x < 1:=by
     unfold bitsOf at r4
     rw[if_neg e1,if_neg e2,if_neg e3] at r4
     exact r4
    rw[if_neg e3]
    omega
def WithPost (w0:World) (O:List Int) (s x:Int) (k:Nat) (e:Ending) (w':World):Prop:=
 Below w0.heap.size w0 w'∧((∃ v more,e=.returned (.tuple #[v,.bool true])∧tell O (s,x)=some more∧O.length+more.length≤k∧NumRow w' w0.heap.size v (O ++ more))∨
  (e=.returned (.tuple #[.slice none 0 0,.bool false])∧∀ more,tell O (s,x)=some more→¬ O.length+more.length≤k))
theorem WithPost.no {w0 w':World} {O:List Int} {s x:Int} {k:Nat} (hb:Below w0.heap.size w0 w') (h:∀ more,tell O (s,x)=some more→¬ O.length+more.length≤k):WithPost w0 O s x k (.returned (.tuple #[.slice none 0 0,.bool false])) w':=⟨hb,.inr ⟨rfl,h⟩⟩
theorem below_grown {w:World} (m:Nat) (os:Array Obj):Below w.heap.size w (grow (w.drewN m) os):=by
 refine⟨rfl,rfl,rfl,?_,fun k hk=>heap_grow_old (w.drewN m) os hk⟩
 rw[size_grow]
 show w.heap.size≤w.heap.size+os.size
 omega
def BoxAt (w0 w w1:World) (s x:Int):Prop:=w1.heap[w.heap.size]?=some (.cells #[.int .i64 s,.int .i64 x] 165 (0,0))∧Below w0.heap.size w0 w1∧Below w.heap.size w w1
theorem box_at {w0 w w1:World} {s x:Int} (hB:Below w0.heap.size w0 w) (h:Below (w.alloc (.cells #[.int .i64 s,.int .i64 x] 165)).heap.size (w.alloc (.cells #[.int .i64 s,.int .i64 x] 165)) w1):BoxAt w0 w w1 s x:=by
 have h2:Below w.heap.size w w1:=bnext (bstart _ _) h
 exact⟨(h.block _ (by simp)).trans (heap_alloc_new w _),hB.trans (h2.mono hB.size),h2⟩
theorem BoxAt.more {w0 w w1:World} {s x:Int} (h:BoxAt w0 w w1 s x) (o:Obj):BoxAt w0 w (w1.alloc o) s x:=by
 refine⟨((bstart w1 o).block _ (block_lt h.1)).trans h.1,bal h.2.1 o,bal h.2.2 o⟩
set_option maxHeartbeats 800000 in
theorem with_wrong (w0 w:World) (b:Option Addr) (m d:Nat) (O:List Int) (s x:Int) (k:Nat) (hB:Below w0.heap.size w0 w) (hR:¬ RightRun s x):
  Calls Tryz.prog 187 #[.slice b m d,.agg #[.int .i64 s,.int .i64 x],.int .i64 (k:Int)] w (WithPost w0 O s x k):=by
 have HB:=hid_of hB
 have HR:=hid_of hR
 have hr:=right_any s x (w.alloc (.cells #[.int .i64 s,.int .i64 x] 165))
 clear hB hR
 go_enter Tryz.func187,Tryz.ntmps187
 go_wp2_with fail
 refine hr.mono ?_
 rintro e w1 ⟨t,rfl,ht,q1,q2,rfl⟩
 obtain rfl:t=false:=by
  cases t with
  | false=>rfl
  | true=>exact absurd (ht.mp rfl) HR.out
 have HX:=hid_of (box_at (s:=s) (x:=x) HB.out (below_grown q1 q2))
 clear hr ht
 generalize grow ((w.alloc (.cells #[.int .i64 s,.int .i64 x] 165)).drewN q1) q2=w1 at HX
 go_wp2_with fail
 go_ret2
 exact WithPost.no HX.out.2.1 (fun more h=>by rw [tell_wrong HR.out] at h; cases h)
set_option maxHeartbeats 800000 in
theorem with_first (w0 w:World) (b:Option Addr) (d:Nat) (x:Int) (k:Nat) (hB:Below w0.heap.size w0 w) (hR:RightRun 16 x):
  Calls Tryz.prog 187 #[.slice b 0 d,.agg #[.int .i64 16,.int .i64 x],.int .i64 (k:Int)] w (WithPost w0 [] 16 x k):=by
 have HB:=hid_of hB
 have HR:=hid_of hR
 have hr:=right_any 16 x (w.alloc (.cells #[.int .i64 16,.int .i64 x] 165))
 clear hB hR
 go_enter Tryz.func187,Tryz.ntmps187
 go_wp2_with fail
 refine hr.mono ?_
 rintro e w1 ⟨t,rfl,ht,q1,q2,rfl⟩
 obtain rfl:t=true:=ht.mpr HR.out
 have HX:=hid_of (box_at (s:=16) (x:=x) HB.out (below_grown q1 q2))
 have c0:=cell_of_block HX.out.1 0
 have c1:=cell_of_block HX.out.1 1
 clear hr ht
 generalize grow ((w.alloc (.cells #[.int .i64 16,.int .i64 x] 165)).drewN q1) q2=w1 at HX c0 c1
 go_wp2_with fail
 go_ret2
 exact WithPost.no HX.out.2.1 (fun more h=>by rw [tell_first] at h; cases h)
set_option maxHeartbeats 1600000 in
theorem with_small (w0 w:World) (b:Option Addr) (m d:Nat) (O:List Int) (s:Int) (x:Int) (k:Nat) (hO:NumRow w w0.heap.size (.slice b m d) O) (hm:m=O.length) (hB:Below w0.heap.size w0 w) (hk:k≤320) (hmk:m≤k) (hR:RightRun s x) (hs:s < 16):
  Calls Tryz.prog 187 #[.slice b m d,.agg #[.int .i64 s,.int .i64 x],.int .i64 (k:Int)] w (WithPost w0 O s x k):=by
 have HB:=hid_of hB
 have HR:=hid_of hR
 have HO:=hid_of hO
 have HM:=hid_of hm
 have hx0:=hR.2.2.1
 have hr:=right_any s x (w.alloc (.cells #[.int .i64 s,.int .i64 x] 165))
 obtain⟨t1,t2,t3⟩:=times_bd hR
 obtain⟨T,hT⟩:=Int.eq_ofNat_of_zero_le (show 0≤timesOf s x by omega)
 have htm:=fun W=>times_any s x W hx0 t3
 have HL:Hid (tell O (s,x)=some (List.replicate T (s))):=by
  rw[tell_right hR (fun e=>by omega),hT,Int.toNat_natCast]
  congr 2
  unfold lenOf
  rw[if_pos hs]
 rw[hT] at htm t1 t2
 have f1:(s == 16)=false:=by simp; omega
 have f2:decide (s < 16)=true:=decide_eq_true hs
 clear hB hR hO hm hT
 go_enter Tryz.func187,Tryz.ntmps187
 go_wp2_with fail
 refine hr.mono ?_
 rintro e w1 ⟨t,rfl,ht,q1,q2,rfl⟩
 obtain rfl:t=true:=ht.mpr HR.out
 have HX:=hid_of (box_at (s:=s) (x:=x) HB.out (below_grown q1 q2))
 have c0:=cell_of_block HX.out.1 0
 have c1:=cell_of_block HX.out.1 1
 clear hr ht
 generalize grow ((w.alloc (.cells #[.int .i64 s,.int .i64 x] 165)).drewN q1) q2=w1 at HX c0 c1
 go_wp2_with fail
 refine (htm _).mono ?_
 rintro e w2 ⟨rfl,rfl⟩
 have HX2:=hid_of (HX.out.more (.cells #[.int .i64 s,.int .i64 x] 165))
 have e0:=cell_of_block HX2.out.1 0
 have e1:=cell_of_block HX2.out.1 1
 have hw2:=block_lt HX2.out.1
 clear c0 c1 HX
 generalize w1.alloc (.cells #[.int .i64 s,.int .i64 x] 165)=w2 at HX2 e0 e1 hw2
 by_cases hov:m+T≤k
 ·have dk:decide ((k:Int) < (m:Int)+(T:Int))=false:=decide_eq_false (by omega)
  have dk2:¬ (k:Int) < (m:Int)+(T:Int):=by omega
  go_wp2_with fail
  refine (htm _).mono ?_
  rintro e w3 ⟨rfl,rfl⟩
  have H0:Hid (NumRow (w2.alloc (.cells #[.int .i64 s,.int .i64 x] 165)) w0.heap.size (.slice b m d) (O ++ List.replicate 0 (s))∧Below w0.heap.size w0 (w2.alloc (.cells #[.int .i64 s,.int .i64 x] 165))):=by
   have h3:=HX2.out.more (.cells #[.int .i64 s,.int .i64 x] 165)
   refine⟨?_,h3.2.1⟩
   rw[List.replicate_zero,List.append_nil]
   exact HO.out.called h3.2.2
  clear HX2 e0 e1 hw2 htm dk dk2
  generalize w2.alloc (.cells #[.int .i64 s,.int .i64 x] 165)=w3 at H0
  go_wp2_with fail
  go_loopg [0,49] (T+1) (fun gk v z w'=>∃ j:Nat,j≤T∧z=.int .i64 j∧T - j≤gk∧Hid (NumRow w' w0.heap.size v (O ++ List.replicate j (s))∧Below w0.heap.size w0 w'))
  case atStart=>exact⟨0,Nat.zero_le _,rfl,by omega,H0⟩
  case round=>
   clear H0
   obtain⟨j,hj,rfl,hgk,hS⟩:=hrel
   by_cases hlt:j < T
   ·have dl:decide ((j:Int) < (T:Int))=true:=decide_eq_true (by omega)
    have hs:=hS.out.2.size
    go_wp2_with (at_builtin; refine nums_append (S:=w0.heap.size) (xs:=O ++ List.replicate j (s)) (ys:=[s]) rfl _ _ rfl rfl (hS.out.1.called (bstart _ _)) (some ⟨wr.heap.size,0,none⟩) 1 1 rfl rfl (fun ad e=>by cases e; exact World.news_of_block (cs:=#[.int .i64 (s)]) (t:=3) (fr:=(0,0)) (heap_alloc_new wr _)) (fun h=>by cases h) (by have:=HM.out; simp only [List.length_append,List.length_replicate,List.length_cons,List.length_nil]; omega) (by simp; omega) ?_)
    intro v1 w4 y1 y2
    have HS1:Hid (NumRow w4 w0.heap.size v1 (O ++ List.replicate (j+1) (s))∧Below w0.heap.size w0 w4):=by
     refine⟨?_,(bal hS.out.2 _).grown y2 (by simp; omega) (fun q hq=>(hS.out.1.lt q hq).1)⟩
     rw[List.replicate_succ']
     exact y1
    clear y1 y2
    go_wp2_with fail
    go_roundg (T - (j+1))
    case measure=>omega
    case rel=>exact⟨j+1,by omega,by go_num,Nat.le_refl _,HS1⟩
   ·obtain rfl:j=T:=by omega
    have HZ:=hS
    go_wp2_with fail
    go_ret2
    exact⟨HZ.out.2,.inl ⟨_,_,rfl,HL.out,by rw [List.length_replicate,← HM.out]; exact hov,HZ.out.1⟩⟩
 ·have dk:decide ((k:Int) < (m:Int)+(T:Int))=true:=decide_eq_true (by omega)
  have dk2:(k:Int) < (m:Int)+(T:Int):=by omega
  go_wp2_with fail
  go_ret2
  refine WithPost.no HX2.out.2.1 (fun more h=>?_)
  rw[HL.out] at h
  cases h
  rw[List.length_replicate,← HM.out]
  exact hov
set_option maxHeartbeats 1600000 in
theorem with_big (w0 w:World) (b:Option Addr) (m d:Nat) (O:List Int) (s:Int) (x:Int) (k:Nat) (hO:NumRow w w0.heap.size (.slice b m d) O) (hm:m=O.length) (hB:Below w0.heap.size w0 w) (hk:k≤320) (hmk:m≤k) (hR:RightRun s x) (hs:16 < s):
  Calls Tryz.prog 187 #[.slice b m d,.agg #[.int .i64 s,.int .i64 x],.int .i64 (k:Int)] w (WithPost w0 O s x k):=by
 have HB:=hid_of hB
 have HR:=hid_of hR
 have HO:=hid_of hO
 have HM:=hid_of hm
 have hx0:=hR.2.2.1
 have hr:=right_any s x (w.alloc (.cells #[.int .i64 s,.int .i64 x] 165))
 obtain⟨t1,t2,t3⟩:=times_bd hR
 obtain⟨T,hT⟩:=Int.eq_ofNat_of_zero_le (show 0≤timesOf s x by omega)
 have htm:=fun W=>times_any s x W hx0 t3
 have HL:Hid (tell O (s,x)=some (List.replicate T (0))):=by
  rw[tell_right hR (fun e=>by omega),hT,Int.toNat_natCast]
  congr 2
  unfold lenOf
  rw[if_neg (by omega),if_neg (by omega)]
 rw[hT] at htm t1 t2
 have f1:(s == 16)=false:=by simp; omega
 have f2:decide (s < 16)=false:=decide_eq_false (by omega)
 clear hB hR hO hm hT
 go_enter Tryz.func187,Tryz.ntmps187
 go_wp2_with fail
 refine hr.mono ?_
 rintro e w1 ⟨t,rfl,ht,q1,q2,rfl⟩
 obtain rfl:t=true:=ht.mpr HR.out
 have HX:=hid_of (box_at (s:=s) (x:=x) HB.out (below_grown q1 q2))
 have c0:=cell_of_block HX.out.1 0
 have c1:=cell_of_block HX.out.1 1
 clear hr ht
 generalize grow ((w.alloc (.cells #[.int .i64 s,.int .i64 x] 165)).drewN q1) q2=w1 at HX c0 c1
 go_wp2_with fail
 refine (htm _).mono ?_
 rintro e w2 ⟨rfl,rfl⟩
 have HX2:=hid_of (HX.out.more (.cells #[.int .i64 s,.int .i64 x] 165))
 have e0:=cell_of_block HX2.out.1 0
 have e1:=cell_of_block HX2.out.1 1
 have hw2:=block_lt HX2.out.1
 clear c0 c1 HX
 generalize w1.alloc (.cells #[.int .i64 s,.int .i64 x] 165)=w2 at HX2 e0 e1 hw2
 by_cases hov:m+T≤k
 ·have dk:decide ((k:Int) < (m:Int)+(T:Int))=false:=decide_eq_false (by omega)
  have dk2:¬ (k:Int) < (m:Int)+(T:Int):=by omega
  go_wp2_with fail
  refine (htm _).mono ?_
  rintro e w3 ⟨rfl,rfl⟩
  have H0:Hid (NumRow (w2.alloc (.cells #[.int .i64 s,.int .i64 x] 165)) w0.heap.size (.slice b m d) (O ++ List.replicate 0 (0))∧Below w0.heap.size w0 (w2.alloc (.cells #[.int .i64 s,.int .i64 x] 165))):=by
   have h3:=HX2.out.more (.cells #[.int .i64 s,.int .i64 x] 165)
   refine⟨?_,h3.2.1⟩
   rw[List.replicate_zero,List.append_nil]
   exact HO.out.called h3.2.2
  clear HX2 e0 e1 hw2 htm dk dk2
  generalize w2.alloc (.cells #[.int .i64 s,.int .i64 x] 165)=w3 at H0
  go_wp2_with fail
  go_loopg [0,49] (T+1) (fun gk v z w'=>∃ j:Nat,j≤T∧z=.int .i64 j∧T - j≤gk∧Hid (NumRow w' w0.heap.size v (O ++ List.replicate j (0))∧Below w0.heap.size w0 w'))
  case atStart=>exact⟨0,Nat.zero_le _,rfl,by omega,H0⟩
  case round=>
   clear H0
   obtain⟨j,hj,rfl,hgk,hS⟩:=hrel
   by_cases hlt:j < T
   ·have dl:decide ((j:Int) < (T:Int))=true:=decide_eq_true (by omega)
    have hs:=hS.out.2.size
    go_wp2_with (at_builtin; refine nums_append (S:=w0.heap.size) (xs:=O ++ List.replicate j (0)) (ys:=[0]) rfl _ _ rfl rfl (hS.out.1.called (bstart _ _)) (some ⟨wr.heap.size,0,none⟩) 1 1 rfl rfl (fun ad e=>by cases e; exact World.news_of_block (cs:=#[.int .i64 (0)]) (t:=3) (fr:=(0,0)) (heap_alloc_new wr _)) (fun h=>by cases h) (by have:=HM.out; simp only [List.length_append,List.length_replicate,List.length_cons,List.length_nil]; omega) (by simp; omega) ?_)
    intro v1 w4 y1 y2
    have HS1:Hid (NumRow w4 w0.heap.size v1 (O ++ List.replicate (j+1) (0))∧Below w0.heap.size w0 w4):=by
     refine⟨?_,(bal hS.out.2 _).grown y2 (by simp; omega) (fun q hq=>(hS.out.1.lt q hq).1)⟩
     rw[List.replicate_succ']
     exact y1
    clear y1 y2
    go_wp2_with fail
    go_roundg (T - (j+1))
    case measure=>omega
    case rel=>exact⟨j+1,by omega,by go_num,Nat.le_refl _,HS1⟩
   ·obtain rfl:j=T:=by omega
    have HZ:=hS
    go_wp2_with fail
    go_ret2
    exact⟨HZ.out.2,.inl ⟨_,_,rfl,HL.out,by rw [List.length_replicate,← HM.out]; exact hov,HZ.out.1⟩⟩
 ·have dk:decide ((k:Int) < (m:Int)+(T:Int))=true:=decide_eq_true (by omega)
  have dk2:(k:Int) < (m:Int)+(T:Int):=by omega
  go_wp2_with fail
  go_ret2
  refine WithPost.no HX2.out.2.1 (fun more h=>?_)
  rw[HL.out] at h
  cases h
  rw[List.length_replicate,← HM.out]
  exact hov
set_option maxHeartbeats 1600000 in
theorem with_again (w0 w:World) (b:Option Addr) (m d:Nat) (O:List Int) (x:Int) (k:Nat) (hO:NumRow w w0.heap.size (.slice b m d) O) (hm:m=O.length) (hB:Below w0.heap.size w0 w) (hk:k≤320) (hmk:m≤k) (hR:RightRun 16 x) (hp:0 < m):
  Calls Tryz.prog 187 #[.slice b m d,.agg #[.int .i64 16,.int .i64 x],.int .i64 (k:Int)] w (WithPost w0 O 16 x k):=by
 have HB:=hid_of hB
 have HR:=hid_of hR
 have HO:=hid_of hO
 have HM:=hid_of hm
 have hx0:=hR.2.2.1
 have hr:=right_any 16 x (w.alloc (.cells #[.int .i64 16,.int .i64 x] 165))
 obtain⟨t1,t2,t3⟩:=times_bd hR
 obtain⟨T,hT⟩:=Int.eq_ofNat_of_zero_le (show 0≤timesOf 16 x by omega)
 have htm:=fun W=>times_any 16 x W hx0 t3
 obtain⟨y,hy⟩:∃ y,y=O.getD (m - 1) 0:=⟨_,rfl⟩
 have HY:=hid_of hy
 have HL:Hid (tell O (16,x)=some (List.replicate T (y))):=by
  rw[tell_right hR (fun _=>by omega),hT,Int.toNat_natCast]
  congr 2
  show (if (16:Int) < 16 then _ else if (16:Int)=16 then O.getD (O.length - 1) 0 else 0)=_
  rw[if_neg (by omega),if_pos rfl,← hm]
  exact hy.symm
 rw[hT] at htm t1 t2
 have f3:((m:Int) == 0)=false:=by simp; omega
 have g1:((m:Int) - 1).toNat=m - 1:=by omega
 have g2:(m:Int) - 1 < (m:Int):=by omega
 have g3:(0:Int)≤(m:Int) - 1:=by omega
 clear hB hR hO hm hT hy
 go_enter Tryz.func187,Tryz.ntmps187
 go_wp2_with fail
 refine hr.mono ?_
 rintro e w1 ⟨t,rfl,ht,q1,q2,rfl⟩
 obtain rfl:t=true:=ht.mpr HR.out
 have HX:=hid_of (box_at (s:=16) (x:=x) HB.out (below_grown q1 q2))
 have c0:=cell_of_block HX.out.1 0
 have c1:=cell_of_block HX.out.1 1
 clear hr ht
 generalize grow ((w.alloc (.cells #[.int .i64 16,.int .i64 x] 165)).drewN q1) q2=w1 at HX c0 c1
 go_wp2_with fail
 refine (htm _).mono ?_
 rintro e w2 ⟨rfl,rfl⟩
 have HX2:=hid_of (HX.out.more (.cells #[.int .i64 16,.int .i64 x] 165))
 have e0:=cell_of_block HX2.out.1 0
 have e1:=cell_of_block HX2.out.1 1
 have hw2:=block_lt HX2.out.1
 clear c0 c1 HX
 generalize w1.alloc (.cells #[.int .i64 16,.int .i64 x] 165)=w2 at HX2 e0 e1 hw2
 obtain⟨g,off,hbe,hg2,g0⟩:∃ g off,b=some ⟨g,off,none⟩∧g < w2.heap.size∧w2.cell? ⟨g,off+(m - 1),none⟩=some (.int .i64 y):=by
  obtain⟨b',d',e,_,_,hC,_⟩:=HO.out.form
  have e1:b=b':=(Value.slice.inj e).1
  subst e1
  rcases hC with h | ⟨g,off,rfl,hg,hc⟩
  ·have:=HM.out; omega
  ·refine⟨g,off,rfl,Nat.lt_of_lt_of_le hg HX2.out.2.2.size,(HX2.out.2.2.cell (p:=⟨g,off+(m - 1),none⟩) hg).trans ?_⟩
   rw[HY.out]
   exact hc (m - 1) (by have:=HM.out; omega)
 subst hbe
 by_cases hov:m+T≤k
 ·have dk:decide ((k:Int) < (m:Int)+(T:Int))=false:=decide_eq_false (by omega)
  have dk2:¬ (k:Int) < (m:Int)+(T:Int):=by omega
  go_wp2_with fail
  refine (htm _).mono ?_
  rintro e w3 ⟨rfl,rfl⟩
  have H0:Hid (NumRow (w2.alloc (.cells #[.int .i64 16,.int .i64 x] 165)) w0.heap.size (.slice (some ⟨g,off,none⟩) m d) (O ++ List.replicate 0 (y))∧Below w0.heap.size w0 (w2.alloc (.cells #[.int .i64 16,.int .i64 x] 165))):=by
   have h3:=HX2.out.more (.cells #[.int .i64 16,.int .i64 x] 165)
   refine⟨?_,h3.2.1⟩
   rw[List.replicate_zero,List.append_nil]
   exact HO.out.called h3.2.2
  clear HX2 e0 e1 hw2 htm dk dk2 g0 g1 g2 g3
  generalize w2.alloc (.cells #[.int .i64 16,.int .i64 x] 165)=w3 at H0
  go_wp2_with fail
  go_loopg [0,49] (T+1) (fun gk v z w'=>∃ j:Nat,j≤T∧z=.int .i64 j∧T - j≤gk∧Hid (NumRow w' w0.heap.size v (O ++ List.replicate j (y))∧Below w0.heap.size w0 w'))
  case atStart=>exact⟨0,Nat.zero_le _,rfl,by omega,H0⟩
  case round=>
   clear H0
   obtain⟨j,hj,rfl,hgk,hS⟩:=hrel
   by_cases hlt:j < T
   ·have dl:decide ((j:Int) < (T:Int))=true:=decide_eq_true (by omega)
    have hs:=hS.out.2.size
    go_wp2_with (at_builtin; refine nums_append (S:=w0.heap.size) (xs:=O ++ List.replicate j (y)) (ys:=[y]) rfl _ _ rfl rfl (hS.out.1.called (bstart _ _)) (some ⟨wr.heap.size,0,none⟩) 1 1 rfl rfl (fun ad e=>by cases e; exact World.news_of_block (cs:=#[.int .i64 (y)]) (t:=3) (fr:=(0,0)) (heap_alloc_new wr _)) (fun h=>by cases h) (by have:=HM.out; simp only [List.length_append,List.length_replicate,List.length_cons,List.length_nil]; omega) (by simp; omega) ?_)
    intro v1 w4 y1 y2
    have HS1:Hid (NumRow w4 w0.heap.size v1 (O ++ List.replicate (j+1) (y))∧Below w0.heap.size w0 w4):=by
     refine⟨?_,(bal hS.out.2 _).grown y2 (by simp; omega) (fun q hq=>(hS.out.1.lt q hq).1)⟩
     rw[List.replicate_succ']
     exact y1
    clear y1 y2
    go_wp2_with fail
    go_roundg (T - (j+1))
    case measure=>omega
    case rel=>exact⟨j+1,by omega,by go_num,Nat.le_refl _,HS1⟩
   ·obtain rfl:j=T:=by omega
    have HZ:=hS
    go_wp2_with fail
    go_ret2
    exact⟨HZ.out.2,.inl ⟨_,_,rfl,HL.out,by rw [List.length_replicate,← HM.out]; exact hov,HZ.out.1⟩⟩
 ·have dk:decide ((k:Int) < (m:Int)+(T:Int))=true:=decide_eq_true (by omega)
  have dk2:(k:Int) < (m:Int)+(T:Int):=by omega
  go_wp2_with fail
  go_ret2
  refine WithPost.no HX2.out.2.1 (fun more h=>?_)
  rw[HL.out] at h
  cases h
  rw[List.length_replicate,← HM.out]
  exact hov
theorem with_any (w0 w:World) (b:Option Addr) (m d:Nat) (O:List Int) (s x:Int) (k:Nat) (hO:NumRow w w0.heap.size (.slice b m d) O) (hm:m=O.length) (hB:Below w0.heap.size w0 w) (hk:k≤320) (hmk:m≤k):
  Calls Tryz.prog 187 #[.slice b m d,.agg #[.int .i64 s,.int .i64 x],.int .i64 (k:Int)] w (WithPost w0 O s x k):=by
 by_cases hR:RightRun s x
 ·rcases Int.lt_trichotomy s 16 with h | h | h
  ·exact with_small w0 w b m d O s x k hO hm hB hk hmk hR h
  ·subst h
   rcases Nat.eq_zero_or_pos m with h0 | h0
   ·subst h0
    obtain rfl:O=[]:=List.eq_nil_of_length_eq_zero hm.symm
    exact with_first w0 w b d x k hB hR
   ·exact with_again w0 w b m d O x k hO hm hB hk hmk hR h0
  ·exact with_big w0 w b m d O s x k hO hm hB hk hmk hR h
 ·exact with_wrong w0 w b m d O s x k hB hR
end
section
open Go.RowKit Go.Joins OutMath CodeMath RunsMath
def RunsRight (f:Nat→Int) (n:Nat):Prop:=n≤320∧OkLens f n
end
end Go.Proofs.YtklpiihnbokkkaaGreatDoor
