/-
  Texts of the proof, put together.
-/
import Derived.Test.YtkpbfmdnjnohlaaGreatRd03
namespace Go.Proofs.YtkpbfmdnjnohlaaGreat
open Go.RowKit Go.Joins HeadMath
theorem specByte17 (x:Int) (w:World):Calls Tryz.prog 118 #[.int .i64 x] w fun e w'=>e=.returned (.bool (decide (0≤x∧x≤255)))∧w'=w:=by
 by_cases h:0≤x∧x≤255
 ·rw[decide_eq_true h]
  go_enter Tryz.func118,Tryz.ntmps118
  go_wp2_with fail
  refine (in_yes x 0 255 _ h.1 h.2).mono ?_
  rintro e w1 ⟨rfl,rfl⟩
  go_wp2_with fail
  go_ret
  exact⟨rfl,rfl⟩
 ·rw[decide_eq_false h]
  go_enter Tryz.func118,Tryz.ntmps118
  go_wp2_with fail
  refine (in_no x 0 255 _ h).mono ?_
  rintro e w1 ⟨rfl,rfl⟩
  go_wp2_with fail
  go_ret
  exact⟨rfl,rfl⟩
set_option maxRecDepth 100000 in
set_option maxHeartbeats 6400000 in
theorem specTableText (a:Option Addr) (n cap:Nat) (F:Nat→Rgb3) (w:World) (hC:RgbCame w a n F) (hn:n≤1048576):
  Calls Tryz.prog 95 #[.slice a n cap] w (TabPost F n w):=by
 by_cases h1:1≤(n:Int)∧(n:Int)≤256
 ·have hi:=fun W=>in_yes (n:Int) 1 256 W h1.1 h1.2
  have HC:=hid_of hC
  have H1:=hid_of h1
  have H0:=hid_of (TbB.empty w F)
  clear hC
  go_enter Tryz.func95,Tryz.ntmps95
  go_wp2_with fail
  refine (hi _).mono ?_
  rintro e w1 ⟨rfl,rfl⟩
  go_wp2_with fail
  go_loopw [4,5] (fun v i w'=>∃ j:Nat,j≤n∧i=.int .i64 j∧Hid (TbB w1 w' v F j)) (fun _ i _=>n - (intOf i).toNat)
  case atStart=>exact⟨0,Nat.zero_le _,rfl,H0⟩
  case round=>
   clear H0 hi
   obtain⟨j,hj,rfl,hS⟩:=hrel
   by_cases hlt:j < n
   ·rcases HC.out with h0 | ⟨g,off,rfl,hg,hc⟩
    ·omega
    ·obtain⟨q0,q1,q2⟩:=hc j hlt
     have c0:=(hS.out.2.2.cell (p:=⟨g,off+j * 3,none⟩) hg).trans q0
     have c1:=(hS.out.2.2.cell (p:=⟨g,off+j * 3+1,none⟩) hg).trans q1
     have c2:=(hS.out.2.2.cell (p:=⟨g,off+j * 3+2,none⟩) hg).trans q2
     have lg:g < wr.heap.size:=Nat.lt_of_lt_of_le hg hS.out.2.2.size
     have b0:=specByte17 (F j).1
     have b1:=specByte17 (F j).2.1
     have b2:=specByte17 (F j).2.2
     have HJ:Hid (RgbR (F j)↔(0≤(F j).1∧(F j).1≤255)∧(0≤(F j).2.1∧(F j).2.1≤255)∧(0≤(F j).2.2∧(F j).2.2≤255)):=Iff.rfl
     have HNX:Hid (RgbR (F j)→∀ w2 v',w2.ownsRow w1.heap.size 5 1 v' (3 * j+3) (t8 (colN F j) ++ t8 [(F j).1,(F j).2.1,(F j).2.2])→∀ o,(wr.drew.alloc o).grownBy w2 u4.ownBlock→TbB w1 w2 v' F (j+1)):=fun h w2 v' k o hg=>TbB.next (hS.out.called (bal (bdraws (Below.refl _ _) 1) o)) h k hg
     have HB:=hid_of hS.out
     obtain⟨x,hx⟩:∃ x,x=(F j).1:=⟨_,rfl⟩
     obtain⟨y,hy⟩:∃ y,y=(F j).2.1:=⟨_,rfl⟩
     obtain⟨z,hz⟩:∃ z,z=(F j).2.2:=⟨_,rfl⟩
     rw[← hx] at c0 b0 HJ HNX
     rw[← hy] at c1 b1 HJ HNX
     rw[← hz] at c2 b2 HJ HNX
     rw[← hx] at q0
     rw[← hy] at q1
     rw[← hz] at q2
     clear hc hx hy hz hS
     have no:¬ ((0≤x∧x≤255)∧(0≤y∧y≤255)∧(0≤z∧z≤255))→¬ TableR F n:=fun h k=>h (HJ.out.mp (k.2 j hlt))
     by_cases hx:0≤x∧x≤255
     ·rw[decide_eq_true hx] at b0
      by_cases hy:0≤y∧y≤255
      ·rw[decide_eq_true hy] at b1
       by_cases hz:0≤z∧z≤255
       ·rw[decide_eq_true hz] at b2
        have HNY:=hid_of (HNX.out (HJ.out.mpr ⟨hx,hy,hz⟩))
        have k1:IntKind.u8.wrap x=x:=by show x % 256=x; omega
        have k2:IntKind.u8.wrap y=y:=by show y % 256=y; omega
        have k3:IntKind.u8.wrap z=z:=by show z % 256=z; omega
        clear no HNX HJ hx hy hz
        go_wp2_with fail
        refine (b0 _).mono ?_
        rintro e w5 ⟨rfl,rfl⟩
        go_wp2_with fail
        refine (b1 _).mono ?_
        rintro e w5 ⟨rfl,rfl⟩
        go_wp2_with fail
        refine (b2 _).mono ?_
        rintro e w5 ⟨rfl,rfl⟩
        go_wp2_with fail
        refine wp_region_held (S:=fun u=>u.cell? ⟨g,off+j * 3,none⟩=some (.int .i64 x)∧u.cell? ⟨g,off+j * 3+1,none⟩=some (.int .i64 y)∧u.cell? ⟨g,off+j * 3+2,none⟩=some (.int .i64 z)) (by kernel_rfl) ?_
        show wpAnyH _ _ _ _ _ _ _ _ w5.drew
        have HS:w5.drew.cell? ⟨g,off+j * 3,none⟩=some (.int .i64 x)∧w5.drew.cell? ⟨g,off+j * 3+1,none⟩=some (.int .i64 y)∧w5.drew.cell? ⟨g,off+j * 3+2,none⟩=some (.int .i64 z):=⟨c0,c1,c2⟩
        refine zqt 0 u4 rfl ?_ HS ?_
        ·intro w' _
         go_simp
        simp only [Act.put,zga,zgb,zsa,zsb,zsc]
        refine zqt 1 (.slice (some ⟨g,off,none⟩) n cap) rfl ?_ HS ?_
        ·intro w' _
         go_simp
        simp only [Act.put,zga,zgb,zgc,zsa,zsb,zsc]
        refine zqt 2 (.int .i64 (j:Int)) rfl ?_ HS ?_
        ·intro w' _
         go_simp
        simp only [Act.put,zga,zgb,zgc,zsa,zsb,zsc]
        refine zqt 3 (.pointer (some ⟨g,off+j * 3,none⟩)) rfl ?_ HS ?_
        ·intro w' _
         go_simp
        simp only [Act.put,zga,zgb,zgc,zsa,zsb,zsc]
        refine zqt 4 (.pointer (some ⟨g,off+j * 3,none⟩)) rfl ?_ HS ?_
        ·intro w' _
         go_simp
        simp only [Act.put,zga,zgb,zgc,zsa,zsb,zsc]
        refine zqt 5 (.int .i64 x) rfl ?_ HS ?_
        ·intro w' hS
         obtain⟨s0,s1,s2⟩:=hS
         go_simp
        simp only [Act.put,zga,zgb,zgc,zsa,zsb,zsc]
        refine zqt 6 (.int .u8 x) rfl ?_ HS ?_
        ·intro w' _
         go_simp
        simp only [Act.put,zga,zgb,zgc,zsa,zsb,zsc]
        refine zqt 7 (.slice (some ⟨g,off,none⟩) n cap) rfl ?_ HS ?_
        ·intro w' _
         go_simp
        simp only [Act.put,zga,zgb,zgc,zsa,zsb,zsc]
        refine zqt 8 (.int .i64 (j:Int)) rfl ?_ HS ?_
        ·intro w' _
         go_simp
        simp only [Act.put,zga,zgb,zgc,zsa,zsb,zsc]
        refine zqt 9 (.pointer (some ⟨g,off+j * 3,none⟩)) rfl ?_ HS ?_
        ·intro w' _
         go_simp
        simp only [Act.put,zga,zgb,zgc,zsa,zsb,zsc]
        refine zqt 10 (.pointer (some ⟨g,off+j * 3+1,none⟩)) rfl ?_ HS ?_
        ·intro w' _
         go_simp
        simp only [Act.put,zga,zgb,zgc,zsa,zsb,zsc]
        refine zqt 11 (.int .i64 y) rfl ?_ HS ?_
        ·intro w' hS
         obtain⟨s0,s1,s2⟩:=hS
         go_simp
        simp only [Act.put,zga,zgb,zgc,zsa,zsb,zsc]
        refine zqt 12 (.int .u8 y) rfl ?_ HS ?_
        ·intro w' _
         go_simp
        simp only [Act.put,zga,zgb,zgc,zsa,zsb,zsc]
        refine zqt 13 (.slice (some ⟨g,off,none⟩) n cap) rfl ?_ HS ?_
        ·intro w' _
         go_simp
        simp only [Act.put,zga,zgb,zgc,zsa,zsb,zsc]
        refine zqt 14 (.int .i64 (j:Int)) rfl ?_ HS ?_
        ·intro w' _
         go_simp
        simp only [Act.put,zga,zgb,zgc,zsa,zsb,zsc]
        refine zqt 15 (.pointer (some ⟨g,off+j * 3,none⟩)) rfl ?_ HS ?_
        ·intro w' _
         go_simp
        simp only [Act.put,zga,zgb,zgc,zsa,zsb,zsc]
        refine zqt 16 (.pointer (some ⟨g,off+j * 3+2,none⟩)) rfl ?_ HS ?_
        ·intro w' _
         go_simp
        simp only [Act.put,zga,zgb,zgc,zsa,zsb,zsc]
        refine zqt 17 (.int .i64 z) rfl ?_ HS ?_
        ·intro w' hS
         obtain⟨s0,s1,s2⟩:=hS
         go_simp
        simp only [Act.put,zga,zgb,zgc,zsa,zsb,zsc]
        refine zqt 18 (.int .u8 z) rfl ?_ HS ?_
        ·intro w' _
         go_simp
        simp only [Act.put,zga,zgb,zgc,zsa,zsb,zsc]
        refine zqr 19 rfl (fun K hK=>?_)
        refine if_wanted (wanted_none rfl) ?_
        simp only [zga,zgb,zgc]
        go_simp
        refine hK.out _ _ ⟨(grow_cell _ (by exact lg) _).trans c0,(grow_cell _ (by exact lg) _).trans c1,(grow_cell _ (by exact lg) _).trans c2⟩ (fun HS2=>?_)
        clear hK K
        refine zqr 20 rfl (fun K hK=>?_)
        refine if_wanted (wanted_none rfl) ?_
        simp only [zga,zgb,zgc]
        obtain⟨i0,hi0,hz0,hz1,hz2⟩:=info_parts rgb_info8
        refine wp_append_lies _ (.tmp 42) (.tmp 61) 120 rfl w1.heap.size 5 i0 _ 1 1 Tryz.underlying120 hi0 hz0 hz1 hz2 rfl (by omega) u4 (3 * j) (t8 (colN F j)) (by rfl) (by exact World.ownsRow.alloc HB.out.1 _) ⟨w5.drew.heap.size,0,none⟩ 3 3 (t8 [x,y,z]) (by rfl) rfl (by exact World.news_of_block (heap_alloc_new w5.drew _)) (t8_one _) (by omega) (by unfold maxLen; have:=H1.out; omega) (by have:=H1.out; omega) (by have:=HB.out.2.2.size; show w1.heap.size≤(World.alloc w5.drew _).heap.size; simp; omega) _ rfl ?_
        intro g' cap' w6 y1 y2 y3 y4
        have HN:=hid_of (HNY.out w6 _ y1 _ y2)
        have hlen:3 * j+3=3 * j+3:=rfl
        clear y1 y2 y3 y4 HNY hlen
        have d0:=(HN.out.2.2.cell (p:=⟨g,off+j * 3,none⟩) hg).trans q0
        have d1:=(HN.out.2.2.cell (p:=⟨g,off+j * 3+1,none⟩) hg).trans q1
        have d2:=(HN.out.2.2.cell (p:=⟨g,off+j * 3+2,none⟩) hg).trans q2
        refine hK.out _ _ ⟨d0,d1,d2⟩ (fun HS3=>?_)
        clear hK K d0 d1 d2
        refine zqt 21 (.slice (some ⟨g',0,none⟩) (3 * j+3) cap') rfl ?_ HS3 ?_
        ·intro w' _
         go_simp
        simp only [Act.put,zga,zgb,zgc,zsa,zsb,zsc]
        refine wpAnyH_done (by kernel_rfl) ?_ _
        go_wp2_with fail
        go_roundw
        case rel=>exact⟨j+1,by omega,by go_num,HN⟩
        case measure=>simp [intOf]; omega
       ·rw[decide_eq_false hz] at b2
        have HX:=hid_of (no fun k=>hz k.2.2)
        have HB2:=hid_of HB.out.2.2
        clear no HNX HJ hx hy hz HB q0 q1 q2
        go_wp2_with fail
        refine (b0 _).mono ?_
        rintro e w5 ⟨rfl,rfl⟩
        go_wp2_with fail
        refine (b1 _).mono ?_
        rintro e w5 ⟨rfl,rfl⟩
        go_wp2_with fail
        refine (b2 _).mono ?_
        rintro e w5 ⟨rfl,rfl⟩
        go_wp2_with fail
        exact bodyPost_ret (v:=.tuple #[.string ⟨#[]⟩,.bool false]) (by simp [results,Tryz.results95,go_sem]) rfl ⟨.inr ⟨HX.out,rfl⟩,HB2.out⟩
      ·rw[decide_eq_false hy] at b1
       have HX:=hid_of (no fun k=>hy k.2.1)
       have HB2:=hid_of HB.out.2.2
       clear no HNX HJ hx hy HB q0 q1 q2
       go_wp2_with fail
       refine (b0 _).mono ?_
       rintro e w5 ⟨rfl,rfl⟩
       go_wp2_with fail
       refine (b1 _).mono ?_
       rintro e w5 ⟨rfl,rfl⟩
       go_wp2_with fail
       exact bodyPost_ret (v:=.tuple #[.string ⟨#[]⟩,.bool false]) (by simp [results,Tryz.results95,go_sem]) rfl ⟨.inr ⟨HX.out,rfl⟩,HB2.out⟩
     ·rw[decide_eq_false hx] at b0
      have HX:=hid_of (no fun k=>hx k.1)
      have HB2:=hid_of HB.out.2.2
      clear no HNX HJ hx HB q0 q1 q2
      go_wp2_with fail
      refine (b0 _).mono ?_
      rintro e w5 ⟨rfl,rfl⟩
      go_wp2_with fail
      exact bodyPost_ret (v:=.tuple #[.string ⟨#[]⟩,.bool false]) (by simp [results,Tryz.results95,go_sem]) rfl ⟨.inr ⟨HX.out,rfl⟩,HB2.out⟩
   ·obtain rfl:j=n:=by omega
    have hcv:=hS.out.text (by have:=H1.out; omega)
    have HR:Hid (TableR F j):=⟨by have:=H1.out; omega,hS.out.2.1⟩
    have HB2:=hid_of hS.out.2.2
    clear hS
    go_wp2_with fail
    exact bodyPost_ret (v:=.tuple #[.string (tableT F j),.bool true]) (by simp [results,Tryz.results95,go_sem]) rfl ⟨.inl ⟨HR.out,rfl⟩,HB2.out⟩
 ·have hi:=fun W=>in_no (n:Int) 1 256 W h1
  have HX:Hid (¬ TableR F n):=fun h=>h1 (by have:=h.1; omega)
  clear h1
  go_enter Tryz.func95,Tryz.ntmps95
  go_wp2_with fail
  refine (hi _).mono ?_
  rintro e w1 ⟨rfl,rfl⟩
  go_wp2_with fail
  exact bodyPost_ret (v:=.tuple #[.string ⟨#[]⟩,.bool false]) (by simp [results,Tryz.results95,go_sem]) rfl ⟨.inr ⟨HX.out,rfl⟩,Below.refl _ _⟩
end Go.Proofs.YtkpbfmdnjnohlaaGreat
