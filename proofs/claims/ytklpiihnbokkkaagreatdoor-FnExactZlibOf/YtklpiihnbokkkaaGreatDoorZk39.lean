/-
  Texts of the proof, put together.
-/
import Derived.Test.YtklpiihnbokkkaaGreatDoorZk38
namespace Go.Proofs.YtklpiihnbokkkaaGreatDoor
section
open Go.RowKit Go.Joins OutMath BlockMath
theorem outSt_os {w:World} {b:Nat} {s:ByteArray} {c:Int} (h:OB w b s c (!outB s c)):OS w b (outSt s c):=by
 refine⟨s,c,by rw [outSt_isNone]; exact h,fun o ho=>?_⟩
 unfold outSt at ho
 split at ho
 ·rename_i hb
  cases ho
  have hf:=fits_of_outB s c hb
  have e:((c.toNat:Nat):Int)=c:=Int.toNat_of_nonneg hf.2.1
  exact⟨rfl,e.symm,by show outB s ((c.toNat:Nat):Int)=true; rw [e]; exact hb⟩
 ·cases ho
theorem heap_two (w:World) (A B:Obj):((w.alloc A).alloc B).heap[w.heap.size]?=some A:=by
 show ((w.heap.push A).push B)[w.heap.size]?=some A
 rw[Array.getElem?_push_lt (by rw [Array.size_push]; omega),Array.getElem_push_eq]
theorem heap_three (w:World) (A B C:Obj):(((w.alloc A).alloc B).alloc C).heap[w.heap.size]?=some A:=by
 show (((w.heap.push A).push B).push C)[w.heap.size]?=some A
 rw[Array.getElem?_push_lt (by rw [Array.size_push,Array.size_push]; omega),Array.getElem_push_lt (by rw [Array.size_push]; omega),Array.getElem_push_eq]
theorem heap_third (w:World) (A B C:Obj):(((w.alloc A).alloc B).alloc C).heap[w.heap.size+1+1]?=some C:=by
 show (((w.heap.push A).push B).push C)[w.heap.size+1+1]?=some C
 have e:w.heap.size+1+1=((w.heap.push A).push B).size:=by rw [Array.size_push,Array.size_push]
 rw[e,Array.getElem?_push_size]
theorem heap_second2 (w:World) (A B:Obj):((w.alloc A).alloc B).heap[w.heap.size+1]?=some B:=by
 show ((w.heap.push A).push B)[w.heap.size+1]?=some B
 have e:w.heap.size+1=(w.heap.push A).size:=by rw [Array.size_push]
 rw[e,Array.getElem?_push_size]
theorem heap_second3 (w:World) (A B C:Obj):(((w.alloc A).alloc B).alloc C).heap[w.heap.size+1]?=some B:=by
 show (((w.heap.push A).push B).push C)[w.heap.size+1]?=some B
 have e:w.heap.size+1=(w.heap.push A).size:=by rw [Array.size_push]
 rw[Array.getElem?_push_lt (by rw [Array.size_push,Array.size_push]; omega)]
 simp only [e,Array.getElem_push_eq]
def HD (w X:World) (B:Nat) (s:ByteArray) (c:Int):Prop:=Below w.heap.size w X∧OB X B s c (!outB s c)∧X.heap[w.heap.size+1]?=some (.cells #[.string ⟨#[]⟩,.int .i64 0,.bool false] 97 (0,0))∧w.heap.size+1≠B∧w.heap.size≤B
theorem hd_alloc {w w':World} (s:ByteArray) (c:Int) (HW:Below w.heap.size w w') (HZ:w'.heap[w.heap.size+1]?=some (.cells #[.string ⟨#[]⟩,.int .i64 0,.bool false] 97 (0,0))):HD w (w'.alloc (.cells #[.string s,.int .i64 c,.bool (!outB s c)] 97)) w'.heap.size s c:=by
 have hl:=block_lt HZ
 exact⟨bal HW _,heap_alloc_new w' _,((bstart w' _).block _ hl).trans HZ,by omega,HW.size⟩
theorem hd_set {w w':World} (s:ByteArray) (c:Int) (HW:Below w.heap.size w w') (HZ:w'.heap[w.heap.size+1]?=some (.cells #[.string ⟨#[]⟩,.int .i64 0,.bool false] 97 (0,0))) (HY:w'.heap[w.heap.size+1+1]?=some (.cells #[.string ⟨#[]⟩,.int .i64 0,.bool false] 97 (0,0))):
  HD w (((w'.setCell ⟨w.heap.size+1+1,0,none⟩ (.string s)).setCell ⟨w.heap.size+1+1,1,none⟩ (.int .i64 c)).setCell ⟨w.heap.size+1+1,2,none⟩ (.bool (!outB s c))) (w.heap.size+1+1) s c:=by
 have h0:OB w' (w.heap.size+1+1) ⟨#[]⟩ 0 false:=HY
 have hs:w.heap.size≤w.heap.size+1+1:=by omega
 refine⟨Below.setCell (p:=⟨_,2,none⟩) (two_below HW hs _ _) hs _,(h0.out s c).turn _,?_,by omega,hs⟩
 rw[← HZ]
 simp[World.setCell,Array.getElem?_modify]
theorem lay_called {X w':World} {g:Nat} {o:Obj} (hB:Below X.heap.size X w') (h:X.heap[g]?=some o):w'.heap[g]?=some o:=(hB.block g (block_lt h)).trans h
set_option maxRecDepth 100000 in
set_option maxHeartbeats 3200000 in
theorem specHead (s : ByteArray) (c : Int) (kind : Nat) (last : Bool) (w : World) (hs : s.size ≤ maxLen) (hc1 : -9223372036854775808 ≤ c) (hc2 : c ≤ 9223372036854775807) (hk : kind ≤ 3) :
    Calls Tryz.prog 62 #[.agg #[.string s, .int .i64 c], .int .i64 (kind : Int), .bool last] w fun e w' => ∃ s' c', e = .returned (.agg #[.string s', .int .i64 c', .bool ((outSt s c).bind fun o => bitsOut o (headBits kind last)).isNone]) ∧ (∀ o, ((outSt s c).bind fun o => bitsOut o (headBits kind last)) = some o → s' = o.1 ∧ c' = (o.2 : Int) ∧ outB o.1 o.2 = true) ∧ Below w.heap.size w w' := by
  have hO := fun w => specOut_any s c w hs hc1 hc2
  go_enter Tryz.func62, Tryz.ntmps62
  go_wp2_with fail
  go_region_with (go_at_call 101; refine (hO _).mono ?_; rintro e w' ⟨rfl, hB⟩; have X0 := lay_called (g := w.heap.size) (o := .cells #[.string s, .int .i64 c] 43 (0, 0)) hB (by first | exact heap_two w _ _ | exact heap_three w _ _ _); have x0 : w'.cell? ⟨w.heap.size, 0, none⟩ = some (.string s) := (cell_of_block X0 0).trans rfl; have x1 : w'.cell? ⟨w.heap.size, 1, none⟩ = some (.int .i64 c) := (cell_of_block X0 1).trans rfl; have xl : w.heap.size < w'.heap.size := block_lt X0; (first | (have Y0 := lay_called (g := w.heap.size + 1 + 1) (o := .cells #[.string ⟨#[]⟩, .int .i64 0, .bool false] 97 (0, 0)) hB (by exact heap_third w _ _ _); have y0 : w'.cell? ⟨w.heap.size + 1 + 1, 0, none⟩ = some (.string ⟨#[]⟩) := (cell_of_block Y0 0).trans rfl; have y1 : w'.cell? ⟨w.heap.size + 1 + 1, 1, none⟩ = some (.int .i64 0) := (cell_of_block Y0 1).trans rfl; have y2 : w'.cell? ⟨w.heap.size + 1 + 1, 2, none⟩ = some (.bool false) := (cell_of_block Y0 2).trans rfl; have yf : ∀ q, w'.frozen? ⟨w.heap.size + 1 + 1, q, none⟩ = false := (fun q => by simp [World.frozen?, Y0]); have yl : w.heap.size + 1 + 1 < w'.heap.size := block_lt Y0; have HY := hid_of Y0; clear Y0) | skip); have HZ := hid_of (lay_called (g := w.heap.size + 1) (o := .cells #[.string ⟨#[]⟩, .int .i64 0, .bool false] 97 (0, 0)) hB (by first | exact heap_second2 w _ _ | exact heap_second3 w _ _ _)); have HW : Hid (Below w.heap.size w w') := bnext (by first | exact bdraws (bal (bstart w _) _) 1 | exact bdraws (bal (bal (bstart w _) _) _) 1) hB; clear X0 hB)
  all_goals
    first
    | (have HH := hid_of (hd_set s c HW.out HZ.out HY.out)
       clear HW HZ HY y0 y1 y2 yf yl x0 x1 xl
       generalize ((w'.setCell ⟨w.heap.size + 1 + 1, 0, none⟩ (.string s)).setCell ⟨w.heap.size + 1 + 1, 1, none⟩ (.int .i64 c)).setCell ⟨w.heap.size + 1 + 1, 2, none⟩ (.bool (!outB s c)) = X at HH ⊢
       generalize w.heap.size + 1 + 1 = B at HH ⊢)
    | (have HH := hid_of (hd_alloc s c HW.out HZ.out)
       clear HW HZ x0 x1 xl
       generalize w'.alloc (.cells #[.string s, .int .i64 c, .bool (!outB s c)] 97) = X at HH ⊢
       generalize w'.heap.size = B at HH ⊢)
  all_goals
    clear hO
    have hlt : kind < 4 := by omega
    cases last
    all_goals
      go_wp2_with fail
      refine (l09Put_any B (outSt s c) _ 1 false X (outSt_os HH.out.2.1) (by omega) (by simp [p2]) (by omega)).mono ?_
      rintro e w2 ⟨rfl, hO2, hg2⟩
      have HO2 := hid_of (And.intro hO2 hg2)
      clear hO2 hg2
      go_wp2_with fail
      refine (l09Put_any B _ (kind : Int) 2 false w2 HO2.out.1 (by omega) (by simp [p2]; omega) (by omega)).mono ?_
      rintro e w3 ⟨rfl, hO3, hg3⟩
      rw [bind_bits _ _ (pieceBits_01 _ _ _)] at hO3
      obtain ⟨s', c', hb3, hst⟩ := hO3
      generalize hbad : Option.isNone _ = bad at hb3
      have HBAD := hid_of hbad
      clear hbad
      have HE : Hid (Below w.heap.size w w3) := HH.out.1.grown (HO2.out.2.trans hg3) HH.out.1.size (fun k hk => by cases hk; exact HH.out.2.2.2.2)
      have hr : w3.heap[w.heap.size + 1]? = some (.cells #[.string ⟨#[]⟩, .int .i64 0, .bool false] 97 (0, 0)) := ((HO2.out.2.trans hg3).block _ (block_lt HH.out.2.2.1) (fun e => HH.out.2.2.2.1 (Option.some.inj e))).trans HH.out.2.2.1
      have hne : w.heap.size + 1 ≠ B := HH.out.2.2.2.1
      obtain ⟨d0, d1, d2⟩ := hb3.cells
      have r0 : w3.cell? ⟨w.heap.size + 1, 0, none⟩ = some (.string ⟨#[]⟩) := (cell_of_block hr 0).trans rfl
      have r1 : w3.cell? ⟨w.heap.size + 1, 1, none⟩ = some (.int .i64 0) := (cell_of_block hr 1).trans rfl
      have r2 : w3.cell? ⟨w.heap.size + 1, 2, none⟩ = some (.bool false) := (cell_of_block hr 2).trans rfl
      have rf : ∀ q, w3.frozen? ⟨w.heap.size + 1, q, none⟩ = false := fun q => by simp [World.frozen?, hr]
      have rl := block_lt hr
      have HST := hid_of hst
      clear hr hb3 HO2 HH hg3 hst
      go_wp2_with fail
      refine bodyPost_ret (v := .agg #[.string s', .int .i64 c', .bool bad]) ?_ rfl ?_
      · simp [results, Tryz.results62, go_sem, r0, r1, r2]
      · exact ⟨s', c', by rw [← HBAD.out]; rfl, HST.out, Below.setCell (p := ⟨_, 2, none⟩) (two_below HE.out (Nat.le_succ _) _ _) (Nat.le_succ _) _⟩
end
section
open Go.RowKit Go.Joins OutMath
set_option maxHeartbeats 400000 in
theorem specFill_yes (s:ByteArray) (c:Int) (w:World) (hs:s.size≤maxLen) (hc1:-9223372036854775808≤c) (hc2:c≤9223372036854775807) (h:outB s c=true):
  Calls Tryz.prog 63 #[.agg #[.string s,.int .i64 c]] w fun e w'=>e=.returned (.tuple #[.agg #[.string s,.int .i64 (8 * s.size)],.bool true])∧Below w.heap.size w w':=by
 have hq:=fits_of_outB s c h
 obtain⟨q1,q2,q3,q4⟩:=hq
 clear q4
 go_enter Tryz.func63,Tryz.ntmps63
 go_wp2_with fail
 refine (specOut_any s c _ hs hc1 hc2).mono ?_
 rintro e w1 ⟨rfl,hb1⟩
 obtain⟨k1,f1⟩:=bcell hb1
 have hz:w.heap.size+1 < w1.heap.size:=by have:=hb1.size; simp at this; omega
 go_wp2_with fail
 refine bodyPost_ret (v:=.tuple #[.agg #[.string s,.int .i64 (8 * s.size)],.bool true]) (by simp [results,Tryz.results63,go_sem,k1]) rfl ⟨rfl,?_⟩
 refine Below.setCell (Below.setCell ((below_alloc2 w _ _).trans (hb1.mono ?_)) ?_ _) ?_ _
 ·simp; omega
 ·simp
 ·simp
end
section
open Go.RowKit Go.Joins OutMath PutMath BitsMath BlockMath
def BlkEnd (w X:World) (B:Nat) (st:Option (ByteArray×Nat)):Prop:=Below w.heap.size w X∧X.heap[w.heap.size+1]?=some (.cells #[.string ⟨#[]⟩,.int .i64 0] 43 (0,0))∧OS X B st∧w.heap.size+1≠B∧w.heap.size≤B
theorem BlkEnd.put {w X Y:World} {B:Nat} {st st':Option (ByteArray×Nat)} (h:BlkEnd w X B st) (hO:OS Y B st') (hg:X.grownBy Y (some B)):BlkEnd w Y B st':=
 ⟨h.1.grown hg h.1.size (fun k hk=>by cases hk; exact h.2.2.2.2),(hg.block _ (block_lt h.2.1) (fun e=>h.2.2.2.1 (Option.some.inj e))).trans h.2.1,hO,h.2.2.2⟩
set_option maxRecDepth 100000 in
set_option maxHeartbeats 3200000 in
theorem specStored (s:ByteArray) (c:Int) (t:ByteArray) (last:Bool) (w:World) (hs:s.size≤maxLen) (hc1:-9223372036854775808≤c) (hc2:c≤9223372036854775807) (ht:t.size≤1048576):
  Calls Tryz.prog 38 #[.agg #[.string s,.int .i64 c],.string t,.bool last] w fun e w'=>e=.returned (blkAns (storedOut s c t last))∧Below w.heap.size w w':=by
 by_cases h26:t.size≤2600
 ·have d0:decide ((2600:Int) < (t.size:Int))=false:=decide_eq_false (by omega)
  have d0':decide (2600 < t.size)=false:=decide_eq_false (by omega)
  have hH:=fun w=>specHead s c 0 last w hs hc1 hc2 (by omega)
  rw[stored_parts h26]
  generalize ((outSt s c).bind fun o=>bitsOut o (headBits 0 last))=st at hH ⊢
  have m0:(0:Int)≤65535 - (t.size:Int):=by omega
  have HP1:Hid ((t.size:Int) < p2 16):=by show (t.size:Int) < p2 16; rw [show p2 16=65536 by simp [p2]]; omega
  have HP2:Hid (65535 - (t.size:Int) < p2 16):=by show 65535 - (t.size:Int) < p2 16; rw [show p2 16=65536 by simp [p2]]; omega
  cases st with
  | none=>
   show Calls _ _ _ _ fun e w'=>e=.returned (blkAns none)∧Below w.heap.size w w'
   simp only [Option.isNone_none] at hH
   go_enter Tryz.func38,Tryz.ntmps38
   go_wp2_with fail
   refine (hH _).mono ?_
   rintro e w1 ⟨s1,c1,rfl,hst,hB1⟩
   clear hH
   have hR:w1.heap[w.heap.size+1]?=some (.cells #[.string ⟨#[]⟩,.int .i64 0] 43 (0,0)):=lay_called hB1 (heap_second2 w _ _)
   have hW1:Below w.heap.size w w1:=bnext (bal (bstart w (.cells #[.string s,.int .i64 c] 43)) (.cells #[.string ⟨#[]⟩,.int .i64 0] 43)) hB1
   have hRl:=block_lt hR
   have HE:Hid (BlkEnd w (w1.alloc (.cells #[.string s1,.int .i64 c1,.bool true] 97)) w1.heap.size none):=⟨bal hW1 _,((bstart w1 _).block _ hRl).trans hR,⟨s1,c1,heap_alloc_new w1 _,fun o ho=>by cases ho⟩,by omega,hW1.size⟩
   clear hst hB1 hR hW1 hRl
   go_wp2_with fail
   refine (l09Put_any _ none _ 16 false _ HE.out.2.2.1 (by omega) HP1.out (by omega)).mono ?_
   rintro e w2 ⟨rfl,hO2,hg2⟩
   have HE2:Hid (BlkEnd w w2 w1.heap.size none):=HE.out.put hO2 hg2
   clear HE hO2 hg2
   go_wp2_with fail
   refine (l09Put_any _ none _ 16 false _ HE2.out.2.2.1 m0 HP2.out (by omega)).mono ?_
   rintro e w3 ⟨rfl,hO3,hg3⟩
   have HE3:Hid (BlkEnd w w3 w1.heap.size none):=HE2.out.put hO3 hg3
   clear HE2 hO3 hg3
   obtain⟨s3,c3,hb3,_⟩:=HE3.out.2.2.1
   simp only [Option.isNone_none] at hb3
   obtain⟨e0,e1,e2⟩:=hb3.cells
   have hr:=HE3.out.2.1
   have r0:w3.cell? ⟨w.heap.size+1,0,none⟩=some (.string ⟨#[]⟩):=(cell_of_block hr 0).trans rfl
   have r1:w3.cell? ⟨w.heap.size+1,1,none⟩=some (.int .i64 0):=(cell_of_block hr 1).trans rfl
   have rf:∀ q,w3.frozen? ⟨w.heap.size+1,q,none⟩=false:=fun q=>by simp [World.frozen?,hr]
   have rl:=block_lt hr
   have bl:=hb3.lt
   clear hr hb3
   go_wp2_with fail
   refine bodyPost_ret (v:=.tuple #[.agg #[.string ⟨#[]⟩,.int .i64 0],.bool false]) ?_ rfl ⟨rfl,two_below HE3.out.1 (Nat.le_succ _) _ _⟩
   simp[results,Tryz.results38,go_sem,r0,r1]
  | some o=>
   obtain⟨s0,c0⟩:=o
   show Calls _ _ _ _ fun e w'=>e=.returned (blkAns (bitsOut (s0,c0) (storedBits c0 t)))∧Below w.heap.size w w'
   simp only [Option.isNone_some] at hH
   go_enter Tryz.func38,Tryz.ntmps38
   go_wp2_with fail
   refine (hH _).mono ?_
   rintro e w1 ⟨s1,c1,rfl,hst,hB1⟩
   clear hH
   obtain⟨rfl,rfl,hout⟩:=hst _ rfl
   have hfit:=fits_of_outB s1 (c0:Int) hout
   have hs1:s1.size≤12000:=hfit.1
   have hc0:c0≤96000:=by have:=hfit.2.2.1; omega
   have HSE:=hid_of (stored_end (t:=t) hout)
   have HO8:Hid (outB s1 ((8 * s1.size:Nat):Int)=true):=(bitsOut_right (fill_bits hout) (fillBits_01 c0)).1
   have hfl:=fun w=>specFill_yes s1 (c0:Int) w (by unfold maxLen; omega) (by omega) (by omega) hout
   have hR:w1.heap[w.heap.size+1]?=some (.cells #[.string ⟨#[]⟩,.int .i64 0] 43 (0,0)):=lay_called hB1 (heap_second2 w _ _)
   have hW1:Below w.heap.size w w1:=bnext (bal (bstart w (.cells #[.string s,.int .i64 c] 43)) (.cells #[.string ⟨#[]⟩,.int .i64 0] 43)) hB1
   have hRl:=block_lt hR
   have HE:Hid (BlkEnd w (w1.alloc (.cells #[.string s1,.int .i64 (c0:Int),.bool false] 97)) w1.heap.size (some (s1,c0))):=⟨bal hW1 _,((bstart w1 _).block _ hRl).trans hR,⟨s1,(c0:Int),heap_alloc_new w1 _,fun o ho=>by cases ho; exact⟨rfl,rfl,hout⟩⟩,by omega,hW1.size⟩
   have HB0:Hid (OB (w1.alloc (.cells #[.string s1,.int .i64 (c0:Int),.bool false] 97)) w1.heap.size s1 (c0:Int) false):=heap_alloc_new w1 _
   clear hst hB1 hR hW1 hRl hfit hout
   go_wp2_with fail
   refine (hfl _).mono ?_
   rintro e w2 ⟨rfl,hB2⟩
   clear hfl
   have hb2:=HB0.out.called hB2
   obtain⟨f0,f1,f2⟩:=hb2.cells
   have ff:=hb2.free
   have fl:=hb2.lt
   have e8:((8 * s1.size:Nat):Int)=8 * (s1.size:Int):=by omega
   have HE2:Hid (BlkEnd w ((w2.setCell ⟨w1.heap.size,0,none⟩ (.string s1)).setCell ⟨w1.heap.size,1,none⟩ (.int .i64 (8 * (s1.size:Int)))) w1.heap.size (some (s1,8 * s1.size))):=by
    refine HE.out.put ⟨s1,8 * (s1.size:Int),hb2.out s1 _,fun o ho=>by cases ho; exact⟨rfl,e8.symm,HO8.out⟩⟩ ?_
    exact ((bgrown_called hB2 _).trans (bgrown_cell _ _ 0 _)).trans (bgrown_cell _ _ 1 _)
   clear HE HB0 hb2 hB2 e8
   go_wp2_with fail
   refine (l09Put_any _ _ _ 16 false _ HE2.out.2.2.1 (by omega) HP1.out (by omega)).mono ?_
   rintro e w2' ⟨rfl,hO2,hg2⟩
   have HE2':=hid_of (HE2.out.put hO2 hg2)
   clear HE2 hO2 hg2 f0 f1 f2 ff fl
   go_wp2_with fail
   refine (l09Put_any _ _ _ 16 false _ HE2'.out.2.2.1 m0 HP2.out (by omega)).mono ?_
   rintro e w3 ⟨rfl,hO3,hg3⟩
   have HE3:Hid (BlkEnd w w3 w1.heap.size (storedNums s1 t)):=HE2'.out.put hO3 hg3
   clear HE2' hO3 hg3
   cases h3:storedNums s1 t with
   | none=>
    have HA:Hid (bitsOut (s1,c0) (storedBits c0 t)=none):=by
     have:=HSE.out
     rw[h3] at this
     exact this
    rw[h3] at HE3
    clear h3 HSE
    obtain⟨s3,c3,hb3,_⟩:=HE3.out.2.2.1
    simp only [Option.isNone_none] at hb3
    obtain⟨e0,e1,e2⟩:=hb3.cells
    have hr:=HE3.out.2.1
    have r0:w3.cell? ⟨w.heap.size+1,0,none⟩=some (.string ⟨#[]⟩):=(cell_of_block hr 0).trans rfl
    have r1:w3.cell? ⟨w.heap.size+1,1,none⟩=some (.int .i64 0):=(cell_of_block hr 1).trans rfl
    have rf:∀ q,w3.frozen? ⟨w.heap.size+1,q,none⟩=false:=fun q=>by simp [World.frozen?,hr]
    have rl:=block_lt hr
    have bl:=hb3.lt
    clear hr hb3
    go_wp2_with fail
    refine bodyPost_ret (v:=.tuple #[.agg #[.string ⟨#[]⟩,.int .i64 0],.bool false]) ?_ rfl ⟨by rw [HA.out]; rfl,two_below HE3.out.1 (Nat.le_succ _) _ _⟩
    simp[results,Tryz.results38,go_sem,r0,r1]
   | some o3=>
    obtain⟨s3,c3⟩:=o3
    have HA:Hid (bitsOut (s1,c0) (storedBits c0 t)=if s3.size+t.size≤12000 then some (s3 ++ t,c3+8 * t.size) else none):=by
     have:=HSE.out
     rw[h3] at this
     exact this
    rw[h3] at HE3
    clear h3 HSE
    obtain⟨s3',c3',hb3,hst3⟩:=HE3.out.2.2.1
    obtain⟨rfl,rfl,hout3⟩:=hst3 _ rfl
    have hfit:=fits_of_outB s3' (c3:Int) hout3
    have hs3:s3'.size≤12000:=hfit.1
    have hc3:c3≤96000:=by have:=hfit.2.2.1; omega
    simp only [Option.isNone_some] at hb3
    obtain⟨e0,e1,e2⟩:=hb3.cells
    have hr:=HE3.out.2.1
    have r0:w3.cell? ⟨w.heap.size+1,0,none⟩=some (.string ⟨#[]⟩):=(cell_of_block hr 0).trans rfl
    have r1:w3.cell? ⟨w.heap.size+1,1,none⟩=some (.int .i64 0):=(cell_of_block hr 1).trans rfl
    have rf:∀ q,w3.frozen? ⟨w.heap.size+1,q,none⟩=false:=fun q=>by simp [World.frozen?,hr]
    have rl:=block_lt hr
    have bl:=hb3.lt
    clear hr hb3
    clear hst3 hout3 hfit
    by_cases hr:s3'.size+t.size≤12000
    ·have d3:decide ((12000:Int) < (s3'.size:Int)+(t.size:Int))=false:=decide_eq_false (by omega)
     have HA':Hid (bitsOut (s1,c0) (storedBits c0 t)=some (s3' ++ t,c3+8 * t.size)):=HA.out.trans (if_pos hr)
     clear HA
     go_wp2_with fail
     refine bodyPost_ret (v:=.tuple #[.agg #[.string (s3' ++ t),.int .i64 ((c3:Int)+8 * (t.size:Int))],.bool true]) ?_ rfl ⟨by rw [HA'.out,show blkAns (some (s3' ++ t,c3+8 * t.size))=.tuple #[.agg #[.string (s3' ++ t),.int .i64 ((c3+8 * t.size:Nat):Int)],.bool true] from rfl,show ((c3+8 * t.size:Nat):Int)=(c3:Int)+8 * (t.size:Int) by omega],two_below HE3.out.1 (Nat.le_succ _) _ _⟩
     simp[results,Tryz.results38,go_sem,r0,r1]
    ·have d3:decide ((12000:Int) < (s3'.size:Int)+(t.size:Int))=true:=decide_eq_true (by omega)
     have HA':Hid (bitsOut (s1,c0) (storedBits c0 t)=none):=HA.out.trans (if_neg hr)
     clear HA
     go_wp2_with fail
     refine bodyPost_ret (v:=.tuple #[.agg #[.string ⟨#[]⟩,.int .i64 0],.bool false]) ?_ rfl ⟨by rw [HA'.out]; rfl,two_below HE3.out.1 (Nat.le_succ _) _ _⟩
     simp[results,Tryz.results38,go_sem,r0,r1]
 ·have d0:decide ((2600:Int) < (t.size:Int))=true:=decide_eq_true (by omega)
  have d0':decide (2600 < t.size)=true:=decide_eq_true (by omega)
  have e0:storedOut s c t last=none:=if_neg h26
  rw[e0]
  have HB:=hid_of (bal (bstart w (.cells #[.string s,.int .i64 c] 43)) (.cells #[.string ⟨#[]⟩,.int .i64 0] 43))
  go_enter Tryz.func38,Tryz.ntmps38
  go_wp2_with fail
  refine bodyPost_ret (v:=.tuple #[.agg #[.string ⟨#[]⟩,.int .i64 0],.bool false]) ?_ rfl ⟨rfl,HB.out⟩
  simp[results,Tryz.results38,go_sem]
end
section
open Go.RowKit Go.Joins TokMath
def TokPost (x y z:Int) (w:World) (e:Ending) (w':World):Prop:=e=.returned (.bool (decide (TokRight (x,y,z))))∧Below w.heap.size w w'
theorem TokPost.yes {x y z:Int} {w w':World} (h:TokRight (x,y,z)) (hb:Below w.heap.size w w'):TokPost x y z w (.returned (.bool true)) w':=⟨by rw [decide_eq_true h],hb⟩
theorem TokPost.no {x y z:Int} {w w':World} (h:¬ TokRight (x,y,z)) (hb:Below w.heap.size w w'):TokPost x y z w (.returned (.bool false)) w':=⟨by rw [decide_eq_false h],hb⟩
theorem tok_byte (x z:Int):TokRight (x,0,z)↔(0≤x∧x≤255)∧z=0:=by
 unfold TokRight
 rw[if_pos rfl]
theorem tok_rep {x y z:Int} (h:y≠0):TokRight (x,y,z)↔x=0∧(3≤y∧y≤258)∧(1≤z∧z≤32768):=by
 unfold TokRight
 rw[if_neg h]
set_option maxHeartbeats 800000 in
theorem specTokenOk (x y z:Int) (w:World):Calls Tryz.prog 105 #[.agg #[.int .i64 x,.int .i64 y,.int .i64 z]] w (TokPost x y z w):=by
 have HB:=hid_of (bstart w (.cells #[.int .i64 x,.int .i64 y,.int .i64 z] 105))
 by_cases h0:y=0
 ·subst h0
  have HR:=hid_of (tok_byte x z)
  by_cases h1:0≤x∧x≤255
  ·have H1:=hid_of h1
   by_cases h2:z=0
   ·subst h2
    clear h1
    go_enter Tryz.func105,Tryz.ntmps105
    go_wp2_with fail
    refine (in_yes _ _ _ _ H1.out.1 H1.out.2).mono ?_
    rintro e w1 ⟨rfl,rfl⟩
    go_wp2_with fail
    go_ret
    exact TokPost.yes (HR.out.mpr ⟨H1.out,trivial⟩) HB.out
   ·have d:(z == 0)=false:=by simpa using h2
    clear h1
    go_enter Tryz.func105,Tryz.ntmps105
    go_wp2_with fail
    refine (in_yes _ _ _ _ H1.out.1 H1.out.2).mono ?_
    rintro e w1 ⟨rfl,rfl⟩
    go_wp2_with fail
    go_ret
    exact TokPost.no (fun h=>h2 (HR.out.mp h).2) HB.out
  ·have H1:=hid_of h1
   clear h1
   go_enter Tryz.func105,Tryz.ntmps105
   go_wp2_with fail
   refine (in_no _ _ _ _ H1.out).mono ?_
   rintro e w1 ⟨rfl,rfl⟩
   go_wp2_with fail
   go_ret
   exact TokPost.no (fun h=>H1.out (HR.out.mp h).1) HB.out
 ·have d0:(y == 0)=false:=by simpa using h0
  have HR:=hid_of (tok_rep (x:=x) (z:=z) h0)
  by_cases h1:x=0
  ·subst h1
   by_cases h2:3≤y∧y≤258
   ·have H2:=hid_of h2
    clear h2
    by_cases h3:1≤z∧z≤32768
    ·have H3:=hid_of h3
     clear h3
     go_enter Tryz.func105,Tryz.ntmps105
     go_wp2_with fail
     refine (in_yes _ _ _ _ H2.out.1 H2.out.2).mono ?_
     rintro e w1 ⟨rfl,rfl⟩
     go_wp2_with fail
     refine (in_yes _ _ _ _ H3.out.1 H3.out.2).mono ?_
     rintro e w1 ⟨rfl,rfl⟩
     go_wp2_with fail
     go_ret
     exact TokPost.yes (HR.out.mpr ⟨trivial,H2.out,H3.out⟩) HB.out
    ·have H3:=hid_of h3
     clear h3
     go_enter Tryz.func105,Tryz.ntmps105
     go_wp2_with fail
     refine (in_yes _ _ _ _ H2.out.1 H2.out.2).mono ?_
     rintro e w1 ⟨rfl,rfl⟩
     go_wp2_with fail
     refine (in_no _ _ _ _ H3.out).mono ?_
     rintro e w1 ⟨rfl,rfl⟩
     go_wp2_with fail
     go_ret
     exact TokPost.no (fun h=>H3.out (HR.out.mp h).2.2) HB.out
   ·have H2:=hid_of h2
    clear h2
    go_enter Tryz.func105,Tryz.ntmps105
    go_wp2_with fail
    refine (in_no _ _ _ _ H2.out).mono ?_
    rintro e w1 ⟨rfl,rfl⟩
    go_wp2_with fail
    go_ret
    exact TokPost.no (fun h=>H2.out (HR.out.mp h).2.1) HB.out
  ·have d:(x == 0)=false:=by simpa using h1
   go_enter Tryz.func105,Tryz.ntmps105
   go_wp2_with fail
   go_ret
   exact TokPost.no (fun h=>h1 (HR.out.mp h).1) HB.out
end
section
open Go.RowKit Go.Joins TokMath TrimMath
set_option maxHeartbeats 1600000 in
theorem specTokensOk (a:Option Addr) (c:Nat) (L:List Tok) (w:World) (hC:TCame w a L.length (fun j=>L.getD j (0,0,0))) (hn:L.length≤1048576):
  Calls Tryz.prog 67 #[.slice a L.length c] w fun e w'=>e=.returned (.bool (decide (TokensRight L)))∧Below w.heap.size w w':=by
 have HC:=hid_of hC
 clear hC
 by_cases h12:L.length≤12000
 ·have d:decide ((12000:Int) < (L.length:Int))=false:=decide_eq_false (by omega)
  have d':decide (12000 < L.length)=false:=decide_eq_false (by omega)
  go_enter Tryz.func67,Tryz.ntmps67
  go_wp2_with fail
  go_loopg [3] (L.length+1) (fun gk i w'=>∃ (j:Nat),j≤L.length∧L.length - j≤gk∧i=.int .i64 j∧Hid (Below w.heap.size w w'∧∀ t∈L.take j,TokRight t))
  case atStart=>exact⟨0,Nat.zero_le _,by omega,rfl,Below.refl _ _,fun t ht=>by cases ht⟩
  case round=>
   obtain⟨j,hj,hgk,rfl,hS⟩:=hrel
   by_cases hlt:j < L.length
   ·have dl:decide ((j:Int) < (L.length:Int))=true:=decide_eq_true (by omega)
    rcases HC.out with q | ⟨g,off,rfl,hg,hc⟩
    ·omega
    obtain⟨c0,c1,c2⟩:w.cell? ⟨g,off+j * 3,none⟩=some (.int .i64 (L.getD j (0,0,0)).1)∧w.cell? ⟨g,off+j * 3+1,none⟩=some (.int .i64 (L.getD j (0,0,0)).2.1)∧w.cell? ⟨g,off+j * 3+2,none⟩=some (.int .i64 (L.getD j (0,0,0)).2.2):=hc j hlt
    have HMEM:Hid (∀ t∈L.take (j+1),t∈L.take j∨t=L.getD j (0,0,0)):=fun t ht=>by
     rw[List.take_add_one,List.getElem?_eq_getElem hlt] at ht
     rcases List.mem_append.mp ht with q | q
     ·exact .inl q
     ·right
      rw[List.getD_eq_getElem?_getD,List.getElem?_eq_getElem hlt]
      exact List.mem_singleton.mp q
    have HIN:Hid (L.getD j (0,0,0)∈L):=by
     rw[List.getD_eq_getElem?_getD,List.getElem?_eq_getElem hlt]
     exact List.getElem_mem hlt
    obtain⟨⟨x,y,q⟩,hr⟩:∃ r,r=L.getD j (0,0,0):=⟨_,rfl⟩
    rw[← hr] at c0 c1 c2 HMEM HIN
    have f0:wr.cell? ⟨g,off+j * 3,none⟩=some (.int .i64 x):=(hS.out.1.cell (p:=⟨g,off+j * 3,none⟩) hg).trans c0
    have f1:wr.cell? ⟨g,off+j * 3+1,none⟩=some (.int .i64 y):=(hS.out.1.cell (p:=⟨g,off+j * 3+1,none⟩) hg).trans c1
    have f2:wr.cell? ⟨g,off+j * 3+2,none⟩=some (.int .i64 q):=(hS.out.1.cell (p:=⟨g,off+j * 3+2,none⟩) hg).trans c2
    have hl2:g < wr.heap.size:=Nat.lt_of_lt_of_le hg hS.out.1.size
    have htk:=specTokenOk x y q wr
    clear hc c0 c1 c2 hr
    by_cases hright:TokRight (x,y,q)
    ·have HR:=hid_of hright
     go_wp2_with fail
     refine htk.mono ?_
     rintro e w2 ⟨rfl,hB2⟩
     rw[decide_eq_true hright]
     clear htk hright
     have HNX:Hid (Below w.heap.size w w2∧∀ t∈L.take (j+1),TokRight t):=by
      refine⟨bnext hS.out.1 hB2,fun t ht=>?_⟩
      rcases HMEM.out t ht with q | q
      ·exact hS.out.2 t q
      ·rw[q]
       exact HR.out
     clear f0 f1 f2 hB2
     go_wp2_with fail
     go_roundg (L.length - (j+1))
     case measure=>omega
     case rel=>exact⟨j+1,by omega,Nat.le_refl _,by go_num,HNX⟩
    ·have HNX:Hid (decide (TokensRight L)=false):=decide_eq_false (fun k=>hright (k.2 _ HIN.out))
     go_wp2_with fail
     refine htk.mono ?_
     rintro e w2 ⟨rfl,hB2⟩
     rw[decide_eq_false hright]
     have HB2:=hid_of (bnext hS.out.1 hB2)
     clear htk hright hB2
     go_wp2_with fail
     go_ret
     rw[HNX.out]
     exact⟨rfl,HB2.out⟩
   ·obtain rfl:j=L.length:=by omega
    have dl:decide ((L.length:Int) < (L.length:Int))=false:=decide_eq_false (by omega)
    have HZ:Hid (Below w.heap.size w wr∧decide (TokensRight L)=true):=by
     refine⟨hS.out.1,decide_eq_true ⟨h12,?_⟩⟩
     have h:=hS.out.2
     rw[List.take_length] at h
     exact h
    clear hS
    go_wp2_with fail
    go_ret
    rw[HZ.out.2]
    exact⟨rfl,HZ.out.1⟩
 ·have d:decide ((12000:Int) < (L.length:Int))=true:=decide_eq_true (by omega)
  have d':decide (12000 < L.length)=true:=decide_eq_true (by omega)
  have HZ:Hid (decide (TokensRight L)=false):=decide_eq_false (fun k=>h12 k.1)
  go_enter Tryz.func67,Tryz.ntmps67
  go_wp2_with fail
  go_ret
  rw[HZ.out]
  exact⟨rfl,Below.refl _ _⟩
set_option maxHeartbeats 1600000 in
theorem specTrim (a:Option Addr) (n cap least:Nat) (f:Nat→Int) (w:World) (hC:Came w a n f) (h0:0 < n) (hn:n≤1048576) (hc:n≤cap) (hl:least≤1048576):
  Calls Tryz.prog 115 #[.slice a n cap,.int .i64 (least:Int)] w fun e w'=>e=.returned (.slice a (trimN f least n) cap)∧w'=w:=by
 rcases hC with q | ⟨g,off,rfl,hg,hcell⟩
 ·omega
 have HC:=hid_of hcell
 clear hcell
 go_enter Tryz.func115,Tryz.ntmps115
 go_wp2_with fail
 go_loopg [5] (n+1) (fun gk i w'=>∃ (j:Nat),j≤n∧j≤gk∧i=.int .i64 j∧w'=w∧Hid (trimN f least n=trimN f least j))
 case atStart=>exact⟨n,Nat.le_refl _,by omega,rfl,rfl,rfl⟩
 case round=>
  obtain⟨j,hj,hgk,rfl,rfl,hS⟩:=hrel
  by_cases hlt:least < j
  ·obtain⟨i,rfl⟩:∃ i,j=i+1:=⟨j - 1,by omega⟩
   have dl:decide ((least:Int) < ((i+1:Nat):Int))=true:=decide_eq_true (by omega)
   have hci:=HC.out i (by omega)
   by_cases hz:f i=0
   ·rw[hz] at hci
    have HT:=hid_of (hS.out.trans (trimN_zero hlt hz))
    clear hS hz
    have e1:((i+1:Nat):Int) - 1=(i:Int):=by omega
    go_wp2_with fail
    go_roundg i
    case measure=>omega
    case rel=>exact⟨i,by omega,Nat.le_refl _,rfl,rfl,HT⟩
   ·have dz:(f i == 0)=false:=by simpa using hz
    have HT:=hid_of (hS.out.trans (trimN_keep hz))
    clear hS
    go_wp2_with fail
    go_ret
    rw[HT.out]
    exact⟨rfl,rfl⟩
  ·have dl:decide ((least:Int) < (j:Int))=false:=decide_eq_false (by omega)
   have HT:=hid_of (hS.out.trans (trimN_least (by omega)))
   clear hS
   go_wp2_with fail
   go_ret
   rw[HT.out]
   exact⟨rfl,rfl⟩
end
section
open Go.RowKit Go.Joins OutMath CodeMath
def RoomPost (f:Nat→Int) (n:Nat) (w:World) (e:Ending) (w':World):Prop:=
 ∃ (x:Int) (b:Bool),e=.returned (.tuple #[.int .i64 x,.bool b])∧w'=w∧((b=true∧n≤288∧OkLens f n∧x=room f n)∨(b=false∧¬ (n≤288∧OkLens f n)))
theorem RoomPost.yes {f:Nat→Int} {n:Nat} {w:World} (h1:n≤288) (h2:OkLens f n):RoomPost f n w (.returned (.tuple #[.int .i64 (room f n),.bool true])) w:=⟨_,true,rfl,rfl,.inl ⟨rfl,h1,h2,rfl⟩⟩
theorem RoomPost.no {f:Nat→Int} {n:Nat} {w:World} (h:¬ (n≤288∧OkLens f n)):RoomPost f n w (.returned (.tuple #[.int .i64 0,.bool false])) w:=⟨_,false,rfl,rfl,.inr ⟨rfl,h⟩⟩
set_option maxHeartbeats 800000 in
theorem specRoom (a:Option Addr) (n cap:Nat) (f:Nat→Int) (w:World) (hC:Came w a n f) (hn:n≤1048576):
  Calls Tryz.prog 158 #[.slice a n cap,.int .i64 288] w (RoomPost f n w):=by
 have HC:Hid (Came w a n f):=hC
 clear hC
 by_cases hm:n≤288
 ·go_enter Tryz.func158,Tryz.ntmps158
  go_wp2_with fail
  go_loop [6,7] (fun x i=>∃ j:Nat,j≤n∧i=.int .i64 j∧x=.int .i64 (room f j)∧Hid (OkLens f j)) (fun _ i=>n - (intOf i).toNat)
  case atStart=>exact⟨0,Nat.zero_le _,rfl,rfl,fun i hi=>absurd hi (Nat.not_lt_zero i)⟩
  case round=>
   obtain⟨j,hj,rfl,rfl,hok⟩:=hrel
   by_cases hlt:j < n
   ·have hr:=room_bd f j
    have hr2:=hr.2 hok.out
    have hr1:=hr.1
    clear hr
    rcases HC.out with h0 | ⟨g,off,rfl,hg,hc⟩
    ·omega
    ·have c0:=hc j hlt
     clear hc
     by_cases hin:0≤f j∧f j≤15
     ·have HK:Hid (OkLens f (j+1)):=fun i hi=>by
       by_cases e:i=j
       ·rw[e]; exact hin
       ·exact hok.out i (by omega)
      obtain⟨i0,i1⟩:=hin
      go_wp2_with fail
      refine (in_yes _ _ _ _ i0 i1).mono ?_
      rintro e w1 ⟨rfl,rfl⟩
      by_cases hpos:0 < f j
      ·have HR:Hid (room f (j+1)=room f j+p2 (15 - f j).toNat):=by
        show room f j+(if 0 < f j then p2 (15 - f j).toNat else 0)=_
        rw[if_pos hpos]
       have hp:=p2_le (show (15 - f j).toNat≤15 by omega)
       have hp2:p2 15=32768:=by decide +kernel
       have hp3:=p2_pos (15 - f j).toNat
       go_wp2_with fail
       refine (pow_int _ _ (by omega) (by omega)).mono ?_
       rintro e w1 ⟨rfl,rfl⟩
       go_wp2_with fail
       go_round
       case rel=>exact⟨j+1,by omega,by go_num,by rw [HR.out],HK⟩
       case measure=>simp [intOf]; omega
      ·have HR:Hid (room f (j+1)=room f j):=by
        show room f j+(if 0 < f j then p2 (15 - f j).toNat else 0)=_
        rw[if_neg hpos]; omega
       have d:decide (0 < f j)=false:=by simpa using hpos
       go_wp2_with fail
       go_round
       case rel=>exact⟨j+1,by omega,by go_num,by rw [HR.out],HK⟩
       case measure=>simp [intOf]; omega
     ·have HN:Hid (¬ (0≤f j∧f j≤15)):=hin
      clear hin
      go_wp2_with fail
      refine (in_no _ _ _ _ HN.out).mono ?_
      rintro e w1 ⟨rfl,rfl⟩
      go_wp2_with fail
      go_ret2
      exact RoomPost.no (fun h=>HN.out (h.2 j hlt))
   ·obtain rfl:j=n:=by omega
    go_wp2_with fail
    go_ret2
    exact RoomPost.yes hm hok.out
 ·go_enter Tryz.func158,Tryz.ntmps158
  go_wp2_with fail
  go_ret2
  exact RoomPost.no (fun h=>hm h.1)
set_option maxHeartbeats 800000 in
theorem specKind (a:Option Addr) (n cap:Nat) (f:Nat→Int) (w:World) (hC:Came w a n f) (hn:n≤1048576):
  Calls Tryz.prog 113 #[.slice a n cap] w fun e w'=>∃ k:Int,e=.returned (.int .i64 k)∧Kind f n k∧w'=w:=by
 have HC:Hid (Came w a n f):=hC
 clear hC
 go_enter Tryz.func113,Tryz.ntmps113
 go_wp2_with fail
 refine (specRoom a n cap f w HC.out hn).mono ?_
 rintro e w1 ⟨x,b,rfl,hw,(⟨rfl,hm,hok,rfl⟩ | ⟨rfl,hno⟩)⟩
 ·obtain rfl:w=w1:=hw.symm
  have HK:Hid (OkLens f n):=hok
  have hr:=(room_bd f n).2 hok
  have hr0:=(room_bd f n).1
  clear hok hw
  go_wp2_with fail
  go_loop [5,6] (fun x i=>∃ j:Nat,j≤n∧i=.int .i64 j∧x=.int .i64 (cnt f j)) (fun _ i=>n - (intOf i).toNat)
  case atStart=>exact⟨0,Nat.zero_le _,rfl,rfl⟩
  case round=>
   obtain⟨j,hj,rfl,rfl⟩:=hrel
   have hcb:=cnt_bd f j
   by_cases hlt:j < n
   ·rcases HC.out with h0 | ⟨g,off,rfl,hg,hc⟩
    ·omega
    ·have c0:=hc j hlt
     clear hc
     by_cases hpos:0 < f j
     ·have HR:Hid (cnt f (j+1)=cnt f j+1):=by
       show cnt f j+(if 0 < f j then 1 else 0)=_
       rw[if_pos hpos]
      go_wp2_with fail
      go_round
      case rel=>exact⟨j+1,by omega,by go_num,by rw [HR.out]⟩
      case measure=>simp [intOf]; omega
     ·have HR:Hid (cnt f (j+1)=cnt f j):=by
       show cnt f j+(if 0 < f j then 1 else 0)=_
       rw[if_neg hpos]; omega
      have d:decide (0 < f j)=false:=by simpa using hpos
      go_wp2_with fail
      go_round
      case rel=>exact⟨j+1,by omega,by go_num,by rw [HR.out]⟩
      case measure=>simp [intOf]; omega
   ·obtain rfl:j=n:=by omega
    have HF:Hid (∀ k,k=kindOf f j→Kind f j k):=fun k hk=>.inr ⟨hm,HK.out,hk⟩
    by_cases q1:cnt f j=0
    ·have d1:(cnt f j == 0)=true:=by simpa using q1
     go_wp2_with fail
     go_ret
     exact⟨1,rfl,HF.out _ (by unfold kindOf; rw [if_pos q1]),rfl⟩
    ·have d1:(cnt f j == 0)=false:=by simpa using q1
     by_cases q2:room f j=32768
     ·have d2:(room f j == 32768)=true:=by simpa using q2
      go_wp2_with fail
      go_ret
      exact⟨2,rfl,HF.out _ (by unfold kindOf; rw [if_neg q1,if_pos q2]),rfl⟩
     ·have d2:(room f j == 32768)=false:=by simpa using q2
      by_cases q3:32768 < room f j
      ·have d3:decide (32768 < room f j)=true:=by simpa using q3
       go_wp2_with fail
       go_ret
       exact⟨5,rfl,HF.out _ (by unfold kindOf; rw [if_neg q1,if_neg q2,if_pos q3]),rfl⟩
      ·have d3:decide (32768 < room f j)=false:=by simpa using q3
       by_cases q4:cnt f j=1∧room f j=16384
       ·have d4:(cnt f j == 1)=true:=by simpa using q4.1
        have d5:(room f j == 16384)=true:=by simpa using q4.2
        go_wp2_with fail
        go_ret
        exact⟨3,rfl,HF.out _ (by unfold kindOf; rw [if_neg q1,if_neg q2,if_neg (by omega),if_pos q4]),rfl⟩
       ·have HQ:Hid (¬ (cnt f j=1∧room f j=16384)):=q4
        by_cases q5:cnt f j=1
        ·have d4:(cnt f j == 1)=true:=by simpa using q5
         have d5:(room f j == 16384)=false:=by simpa using fun h=>q4 ⟨q5,h⟩
         clear q4
         go_wp2_with fail
         go_ret
         exact⟨4,rfl,HF.out _ (by unfold kindOf; rw [if_neg q1,if_neg q2,if_neg (by omega),if_neg HQ.out]),rfl⟩
        ·have d4:(cnt f j == 1)=false:=by simpa using q5
         clear q4
         go_wp2_with fail
         go_ret
         exact⟨4,rfl,HF.out _ (by unfold kindOf; rw [if_neg q1,if_neg q2,if_neg (by omega),if_neg HQ.out]),rfl⟩
 ·obtain rfl:w=w1:=hw.symm
  have HN:Hid (¬ (n≤288∧OkLens f n)):=hno
  clear hno hw
  go_wp2_with fail
  go_ret
  exact⟨0,rfl,.inl ⟨rfl,HN.out⟩,rfl⟩
end
end Go.Proofs.YtklpiihnbokkkaaGreatDoor
