/-
  Texts of the proof, put together.
-/
import Derived.Test.YtcbbcadfolgioaaDoorPc07
namespace Go.Proofs.YtcbbcadfolgioaaDoor
section
open Go.RowKit Go.Joins RastMath PassMath
set_option maxHeartbeats 1600000 in
theorem specPassesOf_yes (r:Ras) (a:Option Addr) (cap:Nat) (w:World) (h:RasOk r) (hC:Came w a r.n r.f) (hcap:r.n≤cap) (hcm:cap≤maxLen):
  Calls Tryd.prog 19 #[rasA r a cap] w fun e w'=>∃ a' c',e=.returned (.tuple #[.slice a' 7 c',.bool true])∧RCame w' a' 7 (passesR r)∧Below w.heap.size w w':=by
 obtain⟨W,H,N,e0,e1,e2,hW,hH,hN,hn,ep⟩:=ras_parts h
 have hT:r.n≤1048576:=by
  have h1:=Nat.mul_le_mul hW.2 hH.2
  have h2:=Nat.mul_le_mul h1 hN.2
  omega
 have hok:∀ V,Came V a r.n r.f→Calls Tryd.prog 50 #[rasA r a cap] V fun e w'=>e=.returned (.bool true)∧Below V.heap.size V w':=fun V hV=>(specRaster r.x0 r.x1 r.x2 r.x3 a r.n cap r.f V hV hT).mono fun _ _ ⟨b,q1,q2,q3⟩=>⟨by rw [q1,q2.mpr h],q3⟩
 have hps:∀ V,Came V a r.n r.f→Calls Tryd.prog 51 #[rasA r a cap] V fun e w'=>∃ a' c',e=.returned (.slice a' 7 c')∧RCame w' a' 7 (passesR r)∧Below V.heap.size V w':=fun V hV=>by
  rw[ep]
  unfold rasA
  rw[e0,e1,hn]
  rw[hn] at hV hcap
  exact specPasses W H N r.x2 r.x3 a cap r.f V hW hH e2 hN hV hcap hcm
 have HC:=hid_of hC
 have HOK:=hid_of hok
 have HPS:=hid_of hps
 clear hC hok hps e0 e1 e2 hn ep hT hcap hcm h
 obtain⟨x0,x1,x2,x3,n,f⟩:=r
 go_enter Tryd.func19,Tryd.ntmps19
 go_wp2_with fail
 have HX:Hid ((w.alloc (.cells #[.int .i64 x0,.int .i64 x1,.int .i64 x2,.int .i64 x3,.slice a n cap] 26)).heap[w.heap.size]?=some (.cells #[.int .i64 x0,.int .i64 x1,.int .i64 x2,.int .i64 x3,.slice a n cap] 26 (0,0))):=heap_alloc_new w _
 have HB:=hid_of (bstart w (.cells #[.int .i64 x0,.int .i64 x1,.int .i64 x2,.int .i64 x3,.slice a n cap] 26))
 generalize w.alloc (.cells #[.int .i64 x0,.int .i64 x1,.int .i64 x2,.int .i64 x3,.slice a n cap] 26)=W1 at HX HB ⊢
 refine (HOK.out W1 (HC.out.called HB.out)).mono ?_
 rintro e w2 ⟨rfl,hB2⟩
 have HX2:=hid_of ((hB2.block _ (block_lt HX.out)).trans HX.out)
 have HB2:=hid_of (bnext HB.out hB2)
 clear hB2 HX HB HOK
 have k0:w2.cell? ⟨w.heap.size,0,none⟩=some (.int .i64 x0):=(cell_of_block HX2.out 0).trans rfl
 have k1:w2.cell? ⟨w.heap.size,1,none⟩=some (.int .i64 x1):=(cell_of_block HX2.out 1).trans rfl
 have k2:w2.cell? ⟨w.heap.size,2,none⟩=some (.int .i64 x2):=(cell_of_block HX2.out 2).trans rfl
 have k3:w2.cell? ⟨w.heap.size,3,none⟩=some (.int .i64 x3):=(cell_of_block HX2.out 3).trans rfl
 have k4:w2.cell? ⟨w.heap.size,4,none⟩=some (.slice a n cap):=(cell_of_block HX2.out 4).trans rfl
 have lx:=block_lt HX2.out
 go_wp2_with fail
 refine (HPS.out w2 (HC.out.called HB2.out)).mono ?_
 rintro e w3 ⟨a',c',rfl,hR,hB3⟩
 have HR:=hid_of hR
 have HB3:=hid_of (bnext HB2.out hB3)
 clear hR hB3
 go_wp2_with fail
 refine bodyPost_ret (v:=.tuple #[.slice a' 7 c',.bool true]) ?_ rfl ⟨_,_,rfl,HR.out,HB3.out⟩
 simp[results,Tryd.results19,go_sem]
set_option maxHeartbeats 1600000 in
theorem specPassesOf_no (r:Ras) (a:Option Addr) (cap:Nat) (w:World) (h:¬ RasOk r) (hC:Came w a r.n r.f) (hT:r.n≤1048576):
  Calls Tryd.prog 19 #[rasA r a cap] w fun e w'=>∃ a' c',e=.returned (.tuple #[.slice a' 0 c',.bool false])∧Below w.heap.size w w':=by
 have hok:∀ V,Came V a r.n r.f→Calls Tryd.prog 50 #[rasA r a cap] V fun e w'=>e=.returned (.bool false)∧Below V.heap.size V w':=fun V hV=>(specRaster r.x0 r.x1 r.x2 r.x3 a r.n cap r.f V hV hT).mono fun _ _ ⟨b,q1,q2,q3⟩=>⟨by
  cases b
  ·exact q1
  ·exact absurd (q2.mp rfl) h,q3⟩
 have HC:=hid_of hC
 have HOK:=hid_of hok
 clear hC hok hT h
 obtain⟨x0,x1,x2,x3,n,f⟩:=r
 go_enter Tryd.func19,Tryd.ntmps19
 go_wp2_with fail
 have HB:=hid_of (bstart w (.cells #[.int .i64 x0,.int .i64 x1,.int .i64 x2,.int .i64 x3,.slice a n cap] 26))
 generalize w.alloc (.cells #[.int .i64 x0,.int .i64 x1,.int .i64 x2,.int .i64 x3,.slice a n cap] 26)=W1 at HB ⊢
 refine (HOK.out W1 (HC.out.called HB.out)).mono ?_
 rintro e w2 ⟨rfl,hB2⟩
 have HB2:=hid_of (bal (bnext HB.out hB2) (.cells #[] 26))
 clear hB2 HB HOK
 go_wp2_with fail
 refine bodyPost_ret (v:=.tuple #[.slice (some ⟨w2.heap.size,0,none⟩) 0 0,.bool false]) ?_ rfl ⟨_,_,rfl,HB2.out⟩
 simp[results,Tryd.results19,go_sem]
end
section
open Go.RowKit RastMath PassMath
def PassesAnswer:Prop:=∀ (r:Ras) (a:Option Addr) (cap:Nat) (w:World),Came w a r.n r.f→r.n≤1048576→r.n≤cap→cap≤maxLen→GridG w→
 (RasOk r→Calls Tryd.prog 11 #[rasA r a cap] w fun e w'=>∃ a' c',e=.returned (.tuple #[.slice a' 7 c',.bool true])∧RSL w' w.heap.size a' 7 (passesR r)∧Below w.heap.size w w')∧
 (¬ RasOk r→Calls Tryd.prog 11 #[rasA r a cap] w fun e w'=>∃ a' c',e=.returned (.tuple #[.slice a' 0 c',.bool false])∧Below w.heap.size w w')
end
end Go.Proofs.YtcbbcadfolgioaaDoor
