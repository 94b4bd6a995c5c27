/-
  Texts of the proof, put together.
-/
import Derived.Test.YtkpbfmdnjnohlaaGreatTk26
namespace Go.Proofs.YtkpbfmdnjnohlaaGreat
section
open Go.RowKit Go.Joins
theorem info_made:(Tryz.prog.info? 3).map (fun i=>(i.zero,i.size,i.bytes))=some (some (.int .i64 0),1,8):=by kernel_rfl
theorem make_ints (w:World) (n:Nat) (hn:n≤1048576):(Instr.makeSlice 25 (.int .i64 n) (.int .i64 n)).run Tryz.prog w=.ok (.slice (some ⟨w.heap.size,0,none⟩) n n) (w.alloc (.cells (madeCells #[Value.int .i64 0] n) 3)):=by
 obtain⟨i0,hi0,hz0,hz1,hz2⟩:=info_parts info_made
 have h:=run_make (P:=Tryz.prog) w 25 3 i0 (.int .i64 0) Tryz.underlying25 hi0 hz0 .i64 .i64 n n (by omega) (by omega) (by rw [hz2]; omega) (by omega)
 rw[hz1,Int.toNat_natCast,Nat.mul_one] at h
 exact h
end
section
open Go.RowKit Go.Joins RastMath HeadMath
set_option maxRecDepth 100000 in
set_option maxHeartbeats 1600000 in
theorem implHeadOk (x y d c:Int) (l:Bool) (w:World):
  Calls Tryz.prog 97 #[.agg #[.int .i64 x,.int .i64 y,.int .i64 d,.int .i64 c,.bool l]] w fun e w'=>e=.returned (.bool (decide (HeadR x y d c)))∧Below w.heap.size w w':=by
 have hs0:=isSide_any x
 have hs1:=isSide_any y
 have hd:=implDepth c d
 have HB:=hid_of (bstart w (.cells #[.int .i64 x,.int .i64 y,.int .i64 d,.int .i64 c,.bool l] 32))
 by_cases h0:SideR x
 ·rw[decide_eq_true h0] at hs0
  by_cases h1:SideR y
  ·rw[decide_eq_true h1] at hs1
   rw[show decide (HeadR x y d c)=decide (DepthR c d) from decide_eq_decide.mpr ⟨fun h=>h.2.2,fun h=>⟨h0,h1,h⟩⟩]
   generalize decide (DepthR c d)=b at hd ⊢
   clear h0 h1
   go_enter Tryz.func97,Tryz.ntmps97
   go_wp2_with fail
   refine (hs0 _).mono ?_
   rintro e w1 ⟨rfl,rfl⟩
   go_wp2_with fail
   refine (hs1 _).mono ?_
   rintro e w1 ⟨rfl,rfl⟩
   go_wp2_with fail
   refine (hd _).mono ?_
   rintro e w1 ⟨rfl,hB1⟩
   have HB1:=hid_of (bnext HB.out hB1)
   clear hB1
   go_wp2_with fail
   go_ret
   exact⟨rfl,HB1.out⟩
  ·rw[decide_eq_false h1] at hs1
   rw[decide_eq_false (fun h:HeadR x y d c=>h1 h.2.1)]
   clear h0 h1
   go_enter Tryz.func97,Tryz.ntmps97
   go_wp2_with fail
   refine (hs0 _).mono ?_
   rintro e w1 ⟨rfl,rfl⟩
   go_wp2_with fail
   refine (hs1 _).mono ?_
   rintro e w1 ⟨rfl,rfl⟩
   go_wp2_with fail
   go_ret
   exact⟨rfl,HB.out⟩
 ·rw[decide_eq_false h0] at hs0
  rw[decide_eq_false (fun h:HeadR x y d c=>h0 h.1)]
  clear h0
  go_enter Tryz.func97,Tryz.ntmps97
  go_wp2_with fail
  refine (hs0 _).mono ?_
  rintro e w1 ⟨rfl,rfl⟩
  go_wp2_with fail
  go_ret
  exact⟨rfl,HB.out⟩
end
end Go.Proofs.YtkpbfmdnjnohlaaGreat
