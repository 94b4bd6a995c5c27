/-
  Texts of the proof, put together.
-/
import Derived.Test.YtklpiihnbokkkaaGreatDoorFk08
namespace Go.Proofs.YtklpiihnbokkkaaGreatDoor
section
open Go.RowKit BigMath
theorem ret_pair {a b:Int} {c:Bool} (h:a=b):Ending.returned (.tuple #[.int .i64 a,.bool c])=.returned (.tuple #[.int .i64 b,.bool c]):=by rw [h]
set_option maxHeartbeats 400000 in
theorem implRead_yes (s:ByteArray) (a k:Nat) (w:World) (hs:s.size≤1048576) (h1:1≤k) (h4:k≤4) (ha:a+k≤s.size):
  Calls Tryz.prog 34 #[.string s,.int .i64 a,.int .i64 k] w fun e w'=>e=.returned (.tuple #[.int .i64 (rb s a k),.bool true])∧w'=w:=by
 have d1:decide ((a:Int) < 0)=false:=by simp
 have d2:decide ((s.size:Int) - (k:Int) < (a:Int))=false:=by simp; omega
 go_enter Tryz.func34,Tryz.ntmps34
 go_wp2_with (go_at_call 60; refine (size_yes _ _ ?_ ?_).mono ?_; omega; omega; rintro e w' ⟨rfl,rfl⟩)
 go_loop [8,26] (fun n i=>∃ j:Nat,j≤k∧i=.int .i64 j∧n=.int .i64 (rb s a j)) (fun _ i=>k - (intOf i).toNat)
 case atStart=>exact⟨0,Nat.zero_le _,rfl,rfl⟩
 case round=>
  obtain⟨j,hj,rfl,rfl⟩:=hrel
  by_cases hlt:j < k
  ·have hb:=rb_lt3 s a j (by omega)
   have hu:(s[a+j]'(by omega)).toNat < 256:=UInt8.toNat_lt _
   have HS:Hid (rb s a (j+1)=256 * rb s a j+((s[a+j]'(by omega)).toNat:Int)):=rb_succ s a j (by omega)
   have HO:Hid (bits .or .i64 (rb s a j * 256) ((s[a+j]'(by omega)).toNat:Int)=256 * rb s a j+((s[a+j]'(by omega)).toNat:Int)):=or_byte _ _ hb.1 hb.2 hu
   go_wp2
   go_round
   case rel=>exact⟨j+1,by omega,by go_num,by rw [HS.out,HO.out]⟩
   case measure=>simp [intOf]; omega
  ·go_wp2
   go_ret2
   exact⟨ret_pair (by rw [show j=k by omega]),rfl⟩
set_option maxHeartbeats 400000 in
theorem implRead_no (s:ByteArray) (a k:Int) (w:World) (hs:s.size≤1048576) (hk1:-9223372036854775808≤k) (hk2:k≤9223372036854775807) (ha1:-9223372036854775808≤a) (ha2:a≤9223372036854775807) (h:¬ (1≤k∧k≤4∧0≤a∧a+k≤s.size)):
  Calls Tryz.prog 34 #[.string s,.int .i64 a,.int .i64 k] w fun e w'=>e=.returned (.tuple #[.int .i64 0,.bool false])∧w'=w:=by
 by_cases h1:1≤k∧k≤4
 ·obtain⟨h2,h3⟩:=h1
  by_cases h4:0≤a
  ·have h5:(s.size:Int) - k < a:=by omega
   have d1:decide (a < 0)=false:=by simp; omega
   clear h
   go_enter Tryz.func34,Tryz.ntmps34
   go_wp2_with (go_at_call 60; refine (size_yes _ _ ?_ ?_).mono ?_; omega; omega; rintro e w' ⟨rfl,rfl⟩)
   go_ret2
   exact⟨rfl,rfl⟩
  ·have d1:a < 0:=by omega
   clear h
   go_enter Tryz.func34,Tryz.ntmps34
   go_wp2_with (go_at_call 60; refine (size_yes _ _ ?_ ?_).mono ?_; omega; omega; rintro e w' ⟨rfl,rfl⟩)
   go_ret2
   exact⟨rfl,rfl⟩
 ·clear h
  go_enter Tryz.func34,Tryz.ntmps34
  go_wp2_with (go_at_call 60; refine (size_no _ _ ?_).mono ?_; omega; rintro e w' ⟨rfl,rfl⟩)
  go_ret2
  exact⟨rfl,rfl⟩
end
section
open Go.RowKit Go.Joins AdlerMath BigMath BlockMath InfMath
def InflOk:Prop:=∀ (s:ByteArray) (most:Int) (O:List Int) (p:Nat) (Ty:List Int) (w:World),s.size≤12000→OrderG w→inflateE s most=.ok (O,p,Ty)→
 Calls Tryz.prog 11 #[.string s,.int .i64 most] w fun e w'=>e=.returned (.tuple #[.string (strOfNums O),.int .i64 (((p+7) / 8:Nat):Int),.int .i64 0])∧Below w.heap.size w w'
def rdV (t X:ByteArray):Value:=if 4≤X.size∧rb X 0 4=adler 1 t then (if 4 < X.size then .tuple #[.string ⟨#[]⟩,.int .i64 4] else .tuple #[.string t,.int .i64 0]) else .tuple #[.string ⟨#[]⟩,.int .i64 3]
theorem implAdler0 (s:ByteArray) (w:World) (hs:s.size≤1048576):
  Calls Tryz.prog 36 #[.string s] w fun e w'=>e=.returned (.int .u32 (adler 1 s))∧Below w.heap.size w w':=by
 have h:=implAdler_any 1 s w (by omega) (by omega) hs
 go_enter Tryz.func36,Tryz.ntmps36
 go_wp2_with fail
 refine h.mono ?_
 rintro e w1 ⟨rfl,hb1⟩
 go_wp2_with fail
 go_ret
 exact⟨rfl,hb1⟩
theorem zHeadOk (k:Nat) (w:World) (_h:k≤3):Calls Tryz.prog 35 #[.int .i64 (headN k)] w fun e w'=>e=.returned (.bool true)∧w'=w:=by
 have b1:bits .and .i64 120 15=8:=by decide +kernel
 have c0:bits .and .i64 30721 32=0:=by decide +kernel
 have c1:bits .and .i64 30814 32=0:=by decide +kernel
 have c2:bits .and .i64 30876 32=0:=by decide +kernel
 have c3:bits .and .i64 30938 32=0:=by decide +kernel
 unfold headN
 split
 ·go_enter Tryz.func35,Tryz.ntmps35
  go_wp2_with fail
  go_ret
  exact⟨rfl,rfl⟩
 split
 ·go_enter Tryz.func35,Tryz.ntmps35
  go_wp2_with fail
  go_ret
  exact⟨rfl,rfl⟩
 split
 ·go_enter Tryz.func35,Tryz.ntmps35
  go_wp2_with fail
  go_ret
  exact⟨rfl,rfl⟩
 ·go_enter Tryz.func35,Tryz.ntmps35
  go_wp2_with fail
  go_ret
  exact⟨rfl,rfl⟩
set_option maxRecDepth 100000 in
set_option maxHeartbeats 1600000 in
theorem zRead (hI:InflOk) (z B X t:ByteArray) (k p most:Nat) (Ty:List Int) (w:World) (h6:6≤z.size) (hz:z.size≤12000) (hk:k≤3) (hh:rb z 0 2=headN k) (hB:z.extract 2 z.size=B) (hp:(p+7) / 8≤B.size) (hX:B.extract ((p+7) / 8) B.size=X) (hin:inflateE B (most:Int)=.ok (numsOf t,p,Ty)) (ht:t.size≤2600) (hG:OrderG w):
  Calls Tryz.prog 13 #[.string z,.int .i64 (most:Int)] w fun e w'=>e=.returned (rdV t X)∧Below w.heap.size w w':=by
 have hBs:B.size=z.size - 2:=by rw [← hB,ByteArray.size_extract]; omega
 have hXs:X.size=B.size - (p+7) / 8:=by rw [← hX,ByteArray.size_extract]; omega
 have hr1:=fun W=>implRead_yes z 0 2 W (by omega) (by omega) (by omega) (by omega)
 rw[hh] at hr1
 have hho:=fun W=>zHeadOk k W hk
 have hinf:=fun W hG=>hI B (most:Int) (numsOf t) p Ty W (by omega) hG hin
 rw[show strOfNums (numsOf t)=t from str_nums t] at hinf
 have had:=fun W=>implAdler0 t W (by omega)
 have har:=adler_range t
 have HG:=hid_of hG
 obtain⟨u,hu⟩:∃ u,u=(p+7) / 8:=⟨_,rfl⟩
 rw[← hu] at hinf hX hp hXs
 have d0:decide ((z.size:Int) < 6)=false:=decide_eq_false (by omega)
 have d1:decide ((12000:Int) < (z.size:Int))=false:=decide_eq_false (by omega)
 have n1:¬ z.size=2:=by omega
 have l1:B.size≤12000∧X.size≤12000:=by omega
 have HBs:=hid_of hBs
 have HXs:=hid_of hXs
 clear hBs hXs
 unfold rdV
 generalize headN k=y at *
 generalize adler 1 t=x at *
 by_cases h4:4≤X.size
 ·have hr2:=fun W=>implRead_yes X 0 4 W (by omega) (by omega) (by omega) (by omega)
  have hrb:=rb_lt X 0 4 (by omega)
  have n2:¬ B.size=u:=by have:=HXs.out; omega
  generalize rb X 0 4=v at hr2 hrb ⊢
  by_cases he:v=x
  ·rw[if_pos ⟨h4,he⟩]
   rw[he] at hr2
   have e1:(x != x)=false:=by simp
   clear he
   by_cases h5:4 < X.size
   ·rw[if_pos h5]
    have d2:decide ((4:Int) < (X.size:Int))=true:=decide_eq_true (by omega)
    clear hI hin hG hu hh
    go_enter Tryz.func13,Tryz.ntmps13
    go_wp2_with fail
    refine (hr1 _).mono ?_
    rintro e w1 ⟨rfl,rfl⟩
    go_wp2_with fail
    refine (hho _).mono ?_
    rintro e w2 ⟨rfl,rfl⟩
    go_wp2_with fail
    refine (hinf _ HG.out).mono ?_
    rintro e w3 ⟨rfl,hB3⟩
    have HB3:=hid_of hB3
    clear hB3
    go_wp2_with fail
    refine (hr2 _).mono ?_
    rintro e w4 ⟨rfl,rfl⟩
    go_wp2_with fail
    refine (had _).mono ?_
    rintro e w5 ⟨rfl,hB5⟩
    have HB5:=hid_of (bnext HB3.out hB5)
    clear hB5
    go_wp2_with fail
    refine bodyPost_ret (v:=.tuple #[.string ⟨#[]⟩,.int .i64 4]) ?_ rfl ⟨rfl,HB5.out⟩
    simp[results,Tryz.results13,go_sem]
   ·rw[if_neg h5]
    have d2:decide ((4:Int) < (X.size:Int))=false:=decide_eq_false (by omega)
    clear hI hin hG hu hh
    go_enter Tryz.func13,Tryz.ntmps13
    go_wp2_with fail
    refine (hr1 _).mono ?_
    rintro e w1 ⟨rfl,rfl⟩
    go_wp2_with fail
    refine (hho _).mono ?_
    rintro e w2 ⟨rfl,rfl⟩
    go_wp2_with fail
    refine (hinf _ HG.out).mono ?_
    rintro e w3 ⟨rfl,hB3⟩
    have HB3:=hid_of hB3
    clear hB3
    go_wp2_with fail
    refine (hr2 _).mono ?_
    rintro e w4 ⟨rfl,rfl⟩
    go_wp2_with fail
    refine (had _).mono ?_
    rintro e w5 ⟨rfl,hB5⟩
    have HB5:=hid_of (bnext HB3.out hB5)
    clear hB5
    go_wp2_with fail
    refine bodyPost_ret (v:=.tuple #[.string t,.int .i64 0]) ?_ rfl ⟨rfl,HB5.out⟩
    simp[results,Tryz.results13,go_sem]
  ·rw[if_neg (fun h=>he h.2)]
   have e1:(v != x)=true:=by simpa using he
   have e2:(v == x)=false:=by simpa using he
   clear he
   clear hI hin hG hu hh
   go_enter Tryz.func13,Tryz.ntmps13
   go_wp2_with fail
   refine (hr1 _).mono ?_
   rintro e w1 ⟨rfl,rfl⟩
   go_wp2_with fail
   refine (hho _).mono ?_
   rintro e w2 ⟨rfl,rfl⟩
   go_wp2_with fail
   refine (hinf _ HG.out).mono ?_
   rintro e w3 ⟨rfl,hB3⟩
   have HB3:=hid_of hB3
   clear hB3
   go_wp2_with fail
   refine (hr2 _).mono ?_
   rintro e w4 ⟨rfl,rfl⟩
   go_wp2_with fail
   refine (had _).mono ?_
   rintro e w5 ⟨rfl,hB5⟩
   have HB5:=hid_of (bnext HB3.out hB5)
   clear hB5
   go_wp2_with fail
   refine bodyPost_ret (v:=.tuple #[.string ⟨#[]⟩,.int .i64 3]) ?_ rfl ⟨rfl,HB5.out⟩
   simp[results,Tryz.results13,go_sem]
 ·rw[if_neg (fun h=>h4 h.1)]
  have hr2:=fun W=>implRead_no X 0 4 W (by omega) (by omega) (by omega) (by omega) (by omega) (by omega)
  have n2:B.size=u∨¬ B.size=u:=by omega
  clear hI hin hG hu hh
  go_enter Tryz.func13,Tryz.ntmps13
  go_wp2_with fail
  refine (hr1 _).mono ?_
  rintro e w1 ⟨rfl,rfl⟩
  go_wp2_with fail
  refine (hho _).mono ?_
  rintro e w2 ⟨rfl,rfl⟩
  go_wp2_with fail
  refine (hinf _ HG.out).mono ?_
  rintro e w3 ⟨rfl,hB3⟩
  have HB3:=hid_of hB3
  clear hB3
  go_wp2_with fail
  refine (hr2 _).mono ?_
  rintro e w4 ⟨rfl,rfl⟩
  go_wp2_with fail
  refine bodyPost_ret (v:=.tuple #[.string ⟨#[]⟩,.int .i64 3]) ?_ rfl ⟨rfl,HB3.out⟩
  simp[results,Tryz.results13,go_sem]
end
section
open Go.RowKit
theorem ret_i {k:IntKind} {a b:Int} (h:a=b):Ending.returned (.int k a)=.returned (.int k b):=by rw [h]
theorem ret_b {a b:Bool} (h:a=b):Ending.returned (.bool a)=.returned (.bool b):=by rw [h]
end
section
open Go.RowKit Go.Joins OutMath
theorem index_last (s:ByteArray) (h:0 < s.size) (w:World):(Instr.index 9 (.string s) (.int .i64 ((s.size:Int) - 1))).run Tryz.prog w=.ok (.int .u8 (last s)) w:=by
 rw[run_index_string w 9 s .i64 _ Tryz.underlying9,dif_pos ⟨by omega,by omega⟩]
 have e:((s.size:Int) - 1).toNat=s.size - 1:=by omega
 simp only [e]
 rw[last_at]
end
section
open Go.RowKit Go.Joins OutMath
theorem bytesFor_any (c:Int) (w:World) (h1:0≤c) (h2:c≤96000):
  Calls Tryz.prog 27 #[.int .i64 c] w fun e w'=>e=.returned (.int .i64 ((c+7) / 8))∧w'=w:=by
 go_enter Tryz.func27,Tryz.ntmps27
 go_wp2
 go_ret
 exact⟨rfl,rfl⟩
set_option maxHeartbeats 400000 in
theorem implOut_fit0 (s:ByteArray) (c:Int) (w:World) (h:Fits s c) (hc:c % 8=0):
  Calls Tryz.prog 117 #[.agg #[.string s,.int .i64 c]] w fun e w'=>e=.returned (.bool true)∧Below w.heap.size w w':=by
 obtain⟨h1,h2,h3,h4⟩:=h
 have d2:decide (c < 0)=false:=by simp; omega
 have d3:decide ((96000:Int) < c)=false:=by simp; omega
 have d4:((s.size:Int) != (c+7) / 8)=false:=by simp; omega
 have d5:(c % 8 == 0)=true:=by simp; omega
 have ht:c.tmod 8=c % 8:=Int.tmod_eq_emod_of_nonneg h2
 have hc9:c≤96000:=by omega
 clear h4 hc
 go_enter Tryz.func117,Tryz.ntmps117
 go_wp2
 go_quiet ((go_at_call 27; exact Calls.quiet_of_same (bytesFor_any _ _ (by omega) (by omega))))
 go_wp2
 go_ret
 exact⟨rfl,(below_alloc1 _ _).trans (below_draws _ _ _)⟩
set_option maxHeartbeats 400000 in
theorem implOut_fit1 (s:ByteArray) (c:Int) (w:World) (h:Fits s c) (hc:¬ c % 8=0):
  Calls Tryz.prog 117 #[.agg #[.string s,.int .i64 c]] w fun e w'=>e=.returned (.bool (lastOk s c))∧Below w.heap.size w w':=by
 obtain⟨h1,h2,h3,h4⟩:=h
 have d2:decide (c < 0)=false:=by simp; omega
 have d3:decide ((96000:Int) < c)=false:=by simp; omega
 have d4:((s.size:Int) != (c+7) / 8)=false:=by simp; omega
 have d5:(c % 8 == 0)=false:=by simp; omega
 have d6:0 < s.size:=by omega
 have ht:c.tmod 8=c % 8:=Int.tmod_eq_emod_of_nonneg h2
 have hc9:c≤96000:=by omega
 have hix:=index_last s d6
 have hlt:=last_lt s
 have hlo:=lastOk_div s c
 clear h4 hc
 go_enter Tryz.func117,Tryz.ntmps117
 go_wp2
 go_quiet ((go_at_call 27; exact Calls.quiet_of_same (bytesFor_any _ _ (by omega) (by omega))))
 have HL:Hid (lastOk s c=(((last s:Nat):Int) / 2 ^ (c % 8).toNat == 0)):=hlo
 clear hlo
 go_wp2
 go_ret
 exact⟨ret_b HL.out.symm,(below_alloc1 _ _).trans (below_draws _ _ _)⟩
set_option maxHeartbeats 400000 in
theorem implOut_no (s:ByteArray) (c:Int) (w:World) (hs:s.size≤maxLen) (hc1:-9223372036854775808≤c) (hc2:c≤9223372036854775807) (h:¬ Fits s c):
  Calls Tryz.prog 117 #[.agg #[.string s,.int .i64 c]] w fun e w'=>e=.returned (.bool false)∧Below w.heap.size w w':=by
 unfold maxLen at hs
 unfold Fits at h
 by_cases h2:c < 0
 ·have d2:decide (c < 0)=true:=by simpa using h2
  clear h
  go_enter Tryz.func117,Tryz.ntmps117
  go_wp2
  go_quiet (fail)
  go_wp2
  go_ret
  exact⟨rfl,(below_alloc1 _ _).trans (below_draws _ _ _)⟩
 ·have d2:decide (c < 0)=false:=by simpa using h2
  by_cases h3:(96000:Int) < c
  ·have d3:decide ((96000:Int) < c)=true:=by simpa using h3
   clear h
   go_enter Tryz.func117,Tryz.ntmps117
   go_wp2
   go_quiet (fail)
   go_wp2
   go_ret
   exact⟨rfl,(below_alloc1 _ _).trans (below_draws _ _ _)⟩
  ·have d3:decide ((96000:Int) < c)=false:=by simpa using h3
   have d4:((s.size:Int) != (c+7) / 8)=true:=by rw [bne_iff_ne]; omega
   clear h
   go_enter Tryz.func117,Tryz.ntmps117
   go_wp2
   go_quiet ((go_at_call 27; exact Calls.quiet_of_same (bytesFor_any _ _ (by omega) (by omega))))
   go_wp2
   go_ret
   exact⟨rfl,(below_alloc1 _ _).trans (below_draws _ _ _)⟩
theorem implOut_any (s:ByteArray) (c:Int) (w:World) (hs:s.size≤maxLen) (hc1:-9223372036854775808≤c) (hc2:c≤9223372036854775807):
  Calls Tryz.prog 117 #[.agg #[.string s,.int .i64 c]] w fun e w'=>e=.returned (.bool (outB s c))∧Below w.heap.size w w':=by
 by_cases h:Fits s c
 ·by_cases hc:c % 8=0
  ·rw[outB_fit0 s c h hc]; exact implOut_fit0 s c w h hc
  ·rw[outB_fit1 s c h hc]; exact implOut_fit1 s c w h hc
 ·rw[outB_no s c h]; exact implOut_no s c w hs hc1 hc2 h
end
section
open Go.RowKit Go.Joins OutMath BigTextMath
theorem ret_sb {a b:List Int} {c:Bool} (h:a=b):Ending.returned (.tuple #[.string (strOfNums a),.bool c])=.returned (.tuple #[.string (strOfNums b),.bool c]):=by rw [h]
theorem conv2 (x0 x1:Int) (w:World):(convert 22 9 (.slice (some ⟨w.heap.size,0,none⟩) 2 2)).run Tryz.prog (w.alloc (.cells #[.int .u8 x0,.int .u8 x1] 5))=.ok (.string (strOfNums [x0,x1])) (w.alloc (.cells #[.int .u8 x0,.int .u8 x1] 5)):=by
 refine run_convert_bytes_arg _ 22 5 Tryz.underlying22 Tryz.underlying5 w.heap.size 0 2 2 [x0,x1] rfl ?_ 9 Tryz.underlying9
 intro i hi
 have hi4:i=0∨i=1:=by omega
 rcases hi4 with rfl | rfl <;> simp
theorem make2 (w:World):(Instr.makeSlice 22 (.int .i64 2) (.int .i64 2)).run Tryz.prog w=.ok (.slice (some ⟨w.heap.size,0,none⟩) 2 2) (w.alloc (.cells #[.int .u8 0,.int .u8 0] 5)):=by kernel_rfl
set_option maxHeartbeats 800000 in
theorem implBig_yes2 (n:Int) (w:World) (h0:0≤n) (hn:n < 65536):
  Calls Tryz.prog 59 #[.int .i64 n,.int .i64 2] w fun e w'=>e=.returned (.tuple #[.string (strOfNums (low n 2)),.bool true])∧Below w.heap.size w w':=by
 have d1:decide (n < 0)=false:=by simp; omega
 have d2:decide ((65536:Int)≤n)=false:=by simp; omega
 have hmk:=make2
 have kc:=conv2
 have HL:Hid (low n 2=_):=low2 n h0 hn
 go_enter Tryz.func59,Tryz.ntmps59
 go_wp2_with fail
 refine (size_yes _ _ (by omega) (by omega)).mono ?_
 rintro e w1 ⟨rfl,rfl⟩
 go_wp2_with fail
 refine wp_loop_rounds 3 ?_
 iterate 3 (rw [rounds_succ]; go_wp2)
 go_ret2
 exact⟨ret_sb HL.out.symm,bstart _ _⟩
theorem conv4 (x0 x1 x2 x3:Int) (w:World):(convert 22 9 (.slice (some ⟨w.heap.size,0,none⟩) 4 4)).run Tryz.prog (w.alloc (.cells #[.int .u8 x0,.int .u8 x1,.int .u8 x2,.int .u8 x3] 5))=.ok (.string (strOfNums [x0,x1,x2,x3])) (w.alloc (.cells #[.int .u8 x0,.int .u8 x1,.int .u8 x2,.int .u8 x3] 5)):=by
 refine run_convert_bytes_arg _ 22 5 Tryz.underlying22 Tryz.underlying5 w.heap.size 0 4 4 [x0,x1,x2,x3] rfl ?_ 9 Tryz.underlying9
 intro i hi
 have hi4:i=0∨i=1∨i=2∨i=3:=by omega
 rcases hi4 with rfl | rfl | rfl | rfl <;> simp
theorem make4 (w:World):(Instr.makeSlice 22 (.int .i64 4) (.int .i64 4)).run Tryz.prog w=.ok (.slice (some ⟨w.heap.size,0,none⟩) 4 4) (w.alloc (.cells #[.int .u8 0,.int .u8 0,.int .u8 0,.int .u8 0] 5)):=by kernel_rfl
set_option maxHeartbeats 800000 in
theorem implBig_yes4 (n:Int) (w:World) (h0:0≤n) (hn:n < 4294967296):
  Calls Tryz.prog 59 #[.int .i64 n,.int .i64 4] w fun e w'=>e=.returned (.tuple #[.string (strOfNums (low n 4)),.bool true])∧Below w.heap.size w w':=by
 have d1:decide (n < 0)=false:=by simp; omega
 have d2:decide ((4294967296:Int)≤n)=false:=by simp; omega
 have hmk:=make4
 have kc:=conv4
 have HL:Hid (low n 4=_):=low4 n h0 hn
 go_enter Tryz.func59,Tryz.ntmps59
 go_wp2_with fail
 refine (size_yes _ _ (by omega) (by omega)).mono ?_
 rintro e w1 ⟨rfl,rfl⟩
 go_wp2_with fail
 refine wp_loop_rounds 5 ?_
 iterate 5 (rw [rounds_succ]; go_wp2)
 go_ret2
 exact⟨ret_sb HL.out.symm,bstart _ _⟩
end
section
open Go.RowKit Go.Joins AdlerMath BigTextMath DeflMath Go.Lib
def Ad3 (w:World) (b:Nat) (p q:Int) (v:Value):Prop:=w.heap[b]?=some (.cells #[.int .i64 p,.int .i64 q,v] 61 (0,0))
section
variable {w:World} {b:Nat} {p q:Int} {v:Value}
theorem Ad3.c0 (h:Ad3 w b p q v):w.cell? ⟨b,0,none⟩=some (.int .i64 p):=cell_of_block h 0
theorem Ad3.c1 (h:Ad3 w b p q v):w.cell? ⟨b,1,none⟩=some (.int .i64 q):=cell_of_block h 1
theorem Ad3.c2 (h:Ad3 w b p q v):w.cell? ⟨b,2,none⟩=some v:=cell_of_block h 2
theorem Ad3.f (h:Ad3 w b p q v) (i:Nat):w.frozen? ⟨b,i,none⟩=false:=unfrozen_of_block h i
theorem Ad3.set0 (h:Ad3 w b p q v) (x:Int):Ad3 (w.setCell ⟨b,0,none⟩ (.int .i64 x)) b x q v:=by
 have:=block_setCell (i:=0) h (.int .i64 x)
 simpa [Ad3] using this
theorem Ad3.set1 (h:Ad3 w b p q v) (x:Int):Ad3 (w.setCell ⟨b,1,none⟩ (.int .i64 x)) b p x v:=by
 have:=block_setCell (i:=1) h (.int .i64 x)
 simpa [Ad3] using this
theorem Ad3.set2 (h:Ad3 w b p q v) (u:Value):Ad3 (w.setCell ⟨b,2,none⟩ u) b p q u:=by
 have:=block_setCell (i:=2) h u
 simpa [Ad3] using this
theorem Ad3.drew1 (h:Ad3 w b p q v):Ad3 w.drew b p q v:=h
theorem Ad3.lt (h:Ad3 w b p q v):b < w.heap.size:=block_lt h
end
set_option maxHeartbeats 400000 in
theorem adlerWord3 (p q:Int) (b:Nat) (v:Value) (w:World) (hA:Ad3 w b p q v) (h0:0≤p) (h1:p < 65521) (h2:0≤q) (h3:q < 65521):
  Calls Tryz.prog 33 #[.pointer (some ⟨b,0,none⟩)] w fun e w'=>e=.returned (.int .u32 (q * 65536+p))∧Below w.heap.size w w':=by
 have c0:=hA.c0
 have c1:=hA.c1
 have hb:=hA.lt
 have f0:=hA.f
 have k:=or_word p q h0 h1 h2 h3
 clear hA
 go_enter Tryz.func33,Tryz.ntmps33
 go_wp2
 go_region
 all_goals
  go_wp2
  go_ret
  exact⟨rfl,(Below.refl _ _).drew⟩
def Rest3 (b:Nat) (w w':World):Prop:=w'.heap.size=w.heap.size∧∀ k,k≠b→w'.heap[k]?=w.heap[k]?
theorem Rest3.set {b i:Nat} {v:Value} {w w':World} (h:Rest3 b w w'):Rest3 b w (w'.setCell ⟨b,i,none⟩ v).drew:=by
 refine⟨?_,fun k hk=>?_⟩
 ·show (w'.setCell ⟨b,i,none⟩ v).heap.size=_
  rw[← h.1]
  simp
 ·show (w'.setCell ⟨b,i,none⟩ v).heap[k]?=_
  rw[Below.heap_setCell w' _ _ k (by simpa using hk)]
  exact h.2 k hk
set_option maxHeartbeats 800000 in
theorem adlerTake3 (p q:Int) (s:ByteArray) (b:Nat) (v:Value) (w:World) (hA:Ad3 w b p q v) (h0:0≤p) (h1:p < 65521) (h2:0≤q) (h3:q < 65521) (hs:s.size≤1048576):
  Calls Tryz.prog 32 #[.pointer (some ⟨b,0,none⟩),.string s] w fun e w'=>e=.returned (.tuple #[])∧Ad3 w' b (adP s p s.size) (adQ s p q s.size) v∧Below b w w'∧Rest3 b w w':=by
 go_enter Tryz.func32,Tryz.ntmps32
 go_wp2
 go_loopw [7] (fun i w'=>∃ j:Nat,j≤s.size∧i=.int .i64 j∧Ad3 w' b (adP s p j) (adQ s p q j) v∧Below b w w'∧Rest3 b w w') (fun i _=>s.size - (intOf i).toNat)
 case atStart=>exact⟨0,Nat.zero_le _,rfl,hA,Below.refl _ _,rfl,fun _ _=>rfl⟩
 case round=>
  obtain⟨j,hj,rfl,hA1,hb1,hr1⟩:=hrel
  have hp:=adP_bd s p h0 h1 j
  have hp1:=adP_bd s p h0 h1 (j+1)
  have hq:=adQ_bd s p q h2 h3 j
  by_cases hlt:j < s.size
  ·have hu:=byteAt_lt s j
   have HB:Hid ((s[j]'hlt).toNat=byteAt s j):=byteAt_get s j hlt
   have hb2:(s[j]'hlt).toNat < 256:=UInt8.toNat_lt _
   have HP:Hid (adP s p (j+1)=(adP s p j+(byteAt s j:Int)) % 65521):=adP_succ _ _ _
   have HQ:Hid (adQ s p q (j+1)=(adQ s p q j+adP s p (j+1)) % 65521):=adQ_succ _ _ _ _
   have c0:=hA1.c0
   have c1:=hA1.c1
   have hb:=hA1.lt
   have f0:=hA1.f
   have HA1:Hid (Ad3 _ b (adP s p j) (adQ s p q j) v):=hA1
   have H0:Hid (Ad3 w b p q v):=hA
   have HR1:=hid_of hr1
   clear hA1 hA hr1
   go_wp2
   go_region
   have e1:(adP s p j+((s[j]'hlt).toNat:Int)) % 65521=adP s p (j+1):=by rw [HP.out,HB.out]
   have hA2:=(HA1.out.set0 (adP s p (j+1))).drew1
   have hB2:Below b w ((wr.setCell ⟨b,0,none⟩ (.int .i64 (adP s p (j+1)))).drew):=(Below.setCell (p:=⟨b,0,none⟩) hb1 (Nat.le_refl b) _).drew
   have HR2:=hid_of (HR1.out.set (i:=0) (v:=.int .i64 (adP s p (j+1))))
   simp only [e1]
   generalize (wr.setCell ⟨b,0,none⟩ (.int .i64 (adP s p (j+1)))).drew=w2 at hA2 hB2 HR2 ⊢
   clear c0 c1 hb f0 HA1 hb1 e1 HB hb2 HP HR1
   have c0:=hA2.c0
   have c1:=hA2.c1
   have hb:=hA2.lt
   have f0:=hA2.f
   have HA2:Hid (Ad3 w2 b (adP s p (j+1)) (adQ s p q j) v):=hA2
   clear hA2
   go_wp2
   go_region
   have hA3:=(HA2.out.set1 (adQ s p q (j+1))).drew1
   have hB3:Below b w ((w2.setCell ⟨b,1,none⟩ (.int .i64 (adQ s p q (j+1)))).drew):=(Below.setCell (p:=⟨b,1,none⟩) hB2 (Nat.le_refl b) _).drew
   have HR3:=hid_of (HR2.out.set (i:=1) (v:=.int .i64 (adQ s p q (j+1))))
   simp only [← HQ.out]
   generalize (w2.setCell ⟨b,1,none⟩ (.int .i64 (adQ s p q (j+1)))).drew=w3 at hA3 hB3 HR3 ⊢
   clear c0 c1 hb f0 HA2 hB2 HQ HR2
   go_wp2
   go_roundw
   case rel=>exact⟨j+1,by omega,by go_num,hA3,hB3,HR3.out⟩
   case measure=>simp [intOf]; omega
  ·go_wp2
   go_end0
   obtain rfl:j=s.size:=by omega
   exact⟨rfl,hA1,hb1,hr1⟩
def Zw (w:World) (b:Nat) (p q:Int) (T:ByteArray):Prop:=∃ v,Ad3 w b p q v∧w.ownsRow (b+1) 5 1 v T.size (strCells T)
theorem strCells_app (s t:ByteArray):strCells s ++ strCells t=strCells (s ++ t):=by
 obtain⟨a⟩:=s
 obtain⟨c⟩:=t
 show _=strCells (ByteArray.mk a ++ ByteArray.mk c)
 rw[ByteArray.mk_append_mk]
 simp[strCells]
theorem size_app (s t:ByteArray):(s ++ t).size=s.size+t.size:=by
 obtain⟨a⟩:=s
 obtain⟨c⟩:=t
 show (ByteArray.mk a ++ ByteArray.mk c).size=_
 rw[ByteArray.mk_append_mk]
 simp[ByteArray.size]
theorem owns_keep {w w':World} {base n:Nat} {e:TypeId} {v:Value} {xs:List Value} (h:w.ownsRow base e 1 v n xs) (hk:∀ k,base≤k→k < w.heap.size→w'.heap[k]?=w.heap[k]?):w'.ownsRow base e 1 v n xs:=by
 refine⟨h.1,?_⟩
 rcases h.2 with q | ⟨g,cap,cur,q,h1,hg,h2⟩
 ·exact .inl q
 ·exact .inr ⟨g,cap,cur,q,h1,(hk g h1 (block_lt hg)).trans hg,h2⟩
theorem owns_ne {w:World} {b n:Nat} {e:TypeId} {v:Value} {xs:List Value} (h:w.ownsRow (b+1) e 1 v n xs):∀ k,v.ownBlock=some k→b+1≤k∧k < w.heap.size:=by
 intro k hk
 rcases h.2 with ⟨q,_⟩ | ⟨g,cap,cur,q,h1,hg,_⟩
 ·subst q; cases hk
 ·subst q; cases hk; exact⟨h1,block_lt hg⟩
set_option maxRecDepth 100000 in
set_option maxHeartbeats 800000 in
theorem zput (b:Nat) (p q:Int) (T s:ByteArray) (w:World) (hZ:Zw w b p q T) (h:T.size+s.size≤1048576):
  Calls Tryz.prog 31 #[.pointer (some ⟨b,0,none⟩),.string s] w fun e w'=>e=.returned (.tuple #[])∧Zw w' b p q (T ++ s)∧Below b w w':=by
 obtain⟨v,hA,hO⟩:=hZ
 obtain⟨i0,hi0,hz0,hz1,hz2⟩:=info_parts info_byte
 have c2:=hA.c2
 have hb:=hA.lt
 have HA:=hid_of hA
 have HO:=hid_of hO
 clear hA hO
 go_enter Tryz.func31,Tryz.ntmps31
 go_wp2_with (at_builtin; refine wpList_append_own_string w rfl _ _ 22 9 rfl (b+1) 5 i0 Tryz.underlying22 Tryz.underlying9 hi0 hz0 hz1 hz2 v T.size (strCells T) rfl HO.out s rfl (by unfold maxLen; omega) (by omega) (by omega) ?_)
 intro v' w' y1 y2 _
 have hne:=owns_ne HO.out
 have A2:Ad3 w' b p q v:=(y2.block b hb (fun e=>by have:=(hne b e.symm).1; omega)).trans HA.out
 have d2:=A2.c2
 have lb:=A2.lt
 have fb:=A2.f
 have HN:Hid (Zw (w'.setCell ⟨b,2,none⟩ v') b p q (T ++ s)∧Below b w (w'.setCell ⟨b,2,none⟩ v')):=by
  refine⟨⟨v',A2.set2 v',?_⟩,Below.setCell (p:=⟨b,2,none⟩) ?_ (Nat.le_refl b) _⟩
  ·rw[size_app,← strCells_app]
   exact owns_keep y1 fun k h1 _=>Below.heap_setCell w' _ _ k (by simp; omega)
  ·exact (Below.refl b w).grown y2 (by omega) (fun k hk=>by have:=(hne k hk).1; omega)
 obtain⟨a',n',c',hv'⟩:∃ a n c,v'=.slice a n c:=by
  rcases y1.2 with ⟨q,_⟩ | ⟨g,cap,cur,q,_⟩
  ·exact⟨_,_,_,q⟩
  ·exact⟨_,_,_,q⟩
 clear A2 y1 y2 hne
 subst hv'
 go_wp2_with fail
 go_end0
 exact⟨rfl,HN.out⟩
theorem Zw.below {w w':World} {b:Nat} {p q:Int} {T:ByteArray} (h:Zw w b p q T) (hb:Below w.heap.size w w'):Zw w' b p q T:=by
 obtain⟨v,hA,hO⟩:=h
 exact⟨v,(hb.block b hA.lt).trans hA,owns_keep hO fun k _ hk=>hb.block k hk⟩
set_option maxRecDepth 100000 in
theorem zputBig (b:Nat) (p q:Int) (T X:ByteArray) (n k:Int) (w:World) (hZ:Zw w b p q T) (h:T.size+X.size≤1048576)
  (hX:∀ W,Calls Tryz.prog 59 #[.int .i64 n,.int .i64 k] W fun e w'=>e=.returned (.tuple #[.string X,.bool true])∧Below W.heap.size W w'):
  Calls Tryz.prog 29 #[.pointer (some ⟨b,0,none⟩),.int .i64 n,.int .i64 k] w fun e w'=>e=.returned (.tuple #[])∧Zw w' b p q (T ++ X)∧Below b w w':=by
 have HZ:=hid_of hZ
 have hbl:b < w.heap.size:=by obtain⟨v,hA,_⟩:=hZ; exact hA.lt
 clear hZ
 go_enter Tryz.func29,Tryz.ntmps29
 go_wp2_with fail
 refine (hX _).mono ?_
 rintro e w1 ⟨rfl,hB1⟩
 have HZ1:=hid_of (HZ.out.below hB1)
 have HB1:=hid_of hB1
 clear hB1
 go_wp2_with fail
 refine (zput b p q T X w1 HZ1.out h).mono ?_
 rintro e w2 ⟨rfl,hZ2,hB2⟩
 have HE:Hid (Zw w2 b p q (T ++ X)∧Below b w w2):=⟨hZ2,(HB1.out.mono (by omega)).trans hB2⟩
 clear hZ2 hB2
 go_wp2_with fail
 go_end0
 exact⟨rfl,HE.out⟩
theorem Zw.start (w:World) (p q:Int):Zw (w.alloc (.cells #[.int .i64 p,.int .i64 q,.slice none 0 0] 61)) w.heap.size p q ⟨#[]⟩:=⟨.slice none 0 0,heap_alloc_new w _,rfl,.inl ⟨rfl,rfl⟩⟩
theorem owns_text {w:World} {b:Nat} {v:Value} {T:ByteArray} (h:w.ownsRow (b+1) 5 1 v T.size (strCells T)) (hT:0 < T.size):(convert 22 9 v).run Tryz.prog w=.ok (.string T) w:=by
 rcases h.2 with ⟨q,h0⟩ | ⟨g,cap,cur,q,h1,hg,_⟩
 ·omega
 ·subst q
  have hr:=run_convert_bytes_arg (P:=Tryz.prog) w 22 5 Tryz.underlying22 Tryz.underlying5 g 0 T.size cap (bytesOf T) (bytesOf_length T) (fun i hi=>?_) 9 Tryz.underlying9
  ·rw[str_back] at hr
   exact hr
  ·have hi':i < T.data.size:=hi
   rw[Nat.zero_add,h.cellAt i (by rw [Nat.mul_one]; exact hi)]
   simp[strCells,bytesOf,Array.getElem?_eq_getElem hi']
theorem zHead (k:Nat) (w:World) (h:k≤3):Calls Tryz.prog 30 #[.int .i64 (k:Int)] w fun e w'=>e=.returned (.int .i64 (headN k))∧w'=w:=by
 have b0:bits .or .i64 30720 0=30720:=by decide +kernel
 have b1:bits .or .i64 30720 64=30784:=by decide +kernel
 have b2:bits .or .i64 30720 128=30848:=by decide +kernel
 have b3:bits .or .i64 30720 192=30912:=by decide +kernel
 have:k=0∨k=1∨k=2∨k=3:=by omega
 rcases this with rfl | rfl | rfl | rfl
 all_goals
  go_enter Tryz.func30,Tryz.ntmps30
  go_wp2_with fail
  go_ret
  exact⟨rfl,rfl⟩
set_option maxRecDepth 100000 in
set_option maxHeartbeats 800000 in
theorem zlib_answer (hD:DeflateAnswer):ZlibAnswer:=by
 intro t lv w ht hlv hG
 have hd:=fun W hG=>hD t lv W ht hlv hG
 unfold deflAns at hd
 unfold zlibAns
 have HG:=hid_of hG
 by_cases hr:DeflRight t lv
 ·rw[if_pos hr] at hd ⊢
  obtain⟨h1,h2,h3⟩:=hr
  obtain⟨k,rfl⟩:=Int.eq_ofNat_of_zero_le h2
  rw[Int.toNat_natCast] at hd ⊢
  have hh:=fun W=>zHead k W (by omega)
  have hn:=newAdler_any 1
  have HE:Hid (zlibT t k=strOfNums (low (headN k) 2) ++ deflT t k ++ strOfNums (low (adler 1 t) 4)):=rfl
  have z1:(strOfNums (low (headN k) 2)).size=2:=(strOfNums_size _).trans (low_length _ _)
  have z2:(strOfNums (low (adler 1 t) 4)).size=4:=(strOfNums_size _).trans (low_length _ _)
  have z3:(deflT t k).size≤12000:=deflT_size t k h1
  have ha:=adler_range t
  have hhr:=headN_range k
  have hb2:=fun W=>implBig_yes2 (headN k) W (by omega) (by omega)
  have hb4:=fun W=>implBig_yes4 (adler 1 t) W (by omega) (by omega)
  have hp:=adP_bd t 1 (by omega) (by omega) t.size
  have hq:=adQ_bd t 1 0 (by omega) (by omega) t.size
  have had:adQ t 1 0 t.size * 65536+adP t 1 t.size=adler 1 t:=rfl
  have htk:=fun (b:Nat) (v:Value) (W:World) (hA:Ad3 W b 1 0 v)=>adlerTake3 1 0 t b v W hA (by omega) (by omega) (by omega) (by omega) ht
  have hwd:=fun (b:Nat) (v:Value) (W:World) (hA:Ad3 W b (adP t 1 t.size) (adQ t 1 0 t.size) v)=>adlerWord3 _ _ b v W hA hp.1 hp.2 hq.1 hq.2
  rw[had] at hwd
  generalize adler 1 t=x at *
  generalize headN k=y at *
  generalize strOfNums (low y 2)=A at *
  generalize deflT t k=B at *
  generalize strOfNums (low x 4)=C at *
  generalize zlibT t k=Z at *
  generalize adP t 1 t.size=P1 at *
  generalize adQ t 1 0 t.size=Q1 at *
  have HHD:=hid_of had
  clear hD hG had
  go_enter Tryz.func12,Tryz.ntmps12
  go_wp2_with fail
  refine (hd _ HG.out).mono ?_
  rintro e w1 ⟨rfl,hB1⟩
  have HB1:=hid_of hB1
  clear hB1
  go_wp2_with fail
  refine (hn w1 (by omega) (by omega)).mono ?_
  rintro e w2 ⟨rfl,hB2⟩
  have HB2:=hid_of (bnext HB1.out hB2)
  have HZ2:=hid_of (Zw.start w2 1 0)
  have HL2:=hid_of (bal HB2.out (.cells #[.int .i64 1,.int .i64 0,.slice none 0 0] 61))
  have hsz:w.heap.size≤w2.heap.size:=HB2.out.size
  clear hB2
  go_wp2_with fail
  generalize w2.alloc (.cells #[.int .i64 1,.int .i64 0,.slice none 0 0] 61)=W2 at HZ2 HL2 ⊢
  refine (hh W2).mono ?_
  rintro e w3 ⟨rfl,rfl⟩
  generalize w2.heap.size=b at HZ2 hsz ⊢
  go_wp2_with fail
  refine (zputBig b 1 0 ⟨#[]⟩ A y 2 w3 HZ2.out (by rw [z1]; show 0+2≤_; omega) hb2).mono ?_
  rintro e w4 ⟨rfl,hZ4,hB4⟩
  have HZ4:=hid_of hZ4
  have HL4:=hid_of (HL2.out.trans (hB4.mono hsz))
  clear hZ4 hB4 HZ2 HL2
  have y1:((⟨#[]⟩:ByteArray) ++ A).size=2:=by rw [size_app,z1]; rfl
  go_wp2_with fail
  refine (zput b 1 0 (⟨#[]⟩ ++ A) B w4 HZ4.out (by rw [y1]; omega)).mono ?_
  rintro e w5 ⟨rfl,hZ5,hB5⟩
  have HL5:=hid_of (HL4.out.trans (hB5.mono hsz))
  obtain⟨v5,hA5,hO5⟩:=hZ5
  have HO5:=hid_of hO5
  have HA5:=hid_of hA5
  have l5:=hA5.lt
  clear hA5 hO5 hB5 HZ4 HL4
  go_wp2_with fail
  refine (htk b v5 w5 HA5.out).mono ?_
  rintro e w6 ⟨rfl,hA6,hB6,hR6⟩
  have HL6:=hid_of (HL5.out.trans (hB6.mono hsz))
  have HO6:=hid_of (owns_keep HO5.out fun q h1 _=>hR6.2 q (by omega))
  have HA6:=hid_of hA6
  have l6:=hA6.lt
  clear hA6 hB6 hR6 HA5 HO5 HL5 l5
  go_wp2_with fail
  refine (hwd b v5 w6 HA6.out).mono ?_
  rintro e w7 ⟨rfl,hB7⟩
  have HZ7:=hid_of (Zw.below ⟨v5,HA6.out,HO6.out⟩ hB7)
  have HL7:=hid_of (bnext HL6.out hB7)
  clear hB7 HA6 HO6 HL6 l6
  have y2:((⟨#[]⟩:ByteArray) ++ A ++ B).size=2+B.size:=by rw [size_app,y1]
  go_wp2_with fail
  refine (zputBig b P1 Q1 (⟨#[]⟩ ++ A ++ B) C x 4 w7 HZ7.out (by rw [y2]; omega) hb4).mono ?_
  rintro e w8 ⟨rfl,hZ8,hB8⟩
  have HL8:=hid_of (HL7.out.trans (hB8.mono hsz))
  obtain⟨v8,hA8,hO8⟩:=hZ8
  have c2:=hA8.c2
  have l8:=hA8.lt
  have hcv:=owns_text hO8 (by rw [size_app,y2]; omega)
  have HT:Hid ((⟨#[]⟩:ByteArray) ++ A ++ B ++ C=Z):=by
   show _=_
   rw[HE.out]
   congr 2
  rw[HT.out] at hcv
  clear hA8 hO8 hB8 HZ7 HL7 HT
  go_wp2_with fail
  refine bodyPost_ret (v:=.tuple #[.string Z,.bool true]) ?_ rfl ⟨rfl,HL8.out⟩
  simp[results,Tryz.results12,go_sem]
 ·rw[if_neg hr] at hd ⊢
  clear hr hD hG
  go_enter Tryz.func12,Tryz.ntmps12
  go_wp2_with fail
  refine (hd _ HG.out).mono ?_
  rintro e w1 ⟨rfl,hB1⟩
  have HB1:=hid_of hB1
  clear hB1
  go_wp2_with fail
  refine bodyPost_ret (v:=.tuple #[.string ⟨#[]⟩,.bool false]) ?_ rfl ⟨rfl,HB1.out⟩
  simp[results,Tryz.results12,go_sem]
end
end Go.Proofs.YtklpiihnbokkkaaGreatDoor
