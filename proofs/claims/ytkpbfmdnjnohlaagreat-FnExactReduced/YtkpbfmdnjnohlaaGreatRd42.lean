/-
  Texts of the proof, put together.
-/
import Derived.Test.YtkpbfmdnjnohlaaGreatRd40
import Derived.Test.YtkpbfmdnjnohlaaGreatRd41
namespace Go.Proofs.YtkpbfmdnjnohlaaGreat
open Go.RowKit Go.Joins HeadMath ChunkMath
theorem col_at {p:Pic} {hc:Int} {o sn c k:Nat} (e1:p.hc=hc) (h26:hc=2∨hc=6) (eo:colO p=o) (ec:clN p=c) (es:o * pixN p=sn) (ek:o * c=k) {w:World} {e:Ending} {w':World} (h:LessPost (MayR p∧(∀ k,k < pixN p→GryR (o+2) p.S k)∧∀ k,k < c→GryR (o+2) p.C k) (withP p (hc - 2) p.hd sn (tkF (o+2) 2 o p.S) k (tkF (o+2) 2 o p.C)) w e w'):LessPost (ColC p) (colP p) w e w':=by
 refine less_congr ?_ (fun _=>?_) h
 ·unfold ColC
  rw[eo,ec,e1]
  exact⟨fun h=>⟨⟨h.1,h26⟩,h.2⟩,fun h=>⟨h.1.1,h.2⟩⟩
 ·unfold colP
  rw[eo,ec,e1,es,ek]
theorem col_none {p:Pic} (hn:¬ (MayR p∧(p.hc=2∨p.hc=6))) {w:World} {e:Ending} {w':World} (h:e=.returned (.tuple #[noPng,.bool false])∧Below w.heap.size w w'):LessPost (ColC p) (colP p) w e w':=.inl ⟨fun k=>hn k.1,h.1,h.2⟩
theorem specCol (p:Pic) (q:PicA) (w:World) (hP:PngIn w p q) (hZ:PngSz p):
  Calls Tryz.prog 15 #[pngV p q] w (LessPost (ColC p) (colP p) w):=by
 by_cases hm:MayR p∧(p.hc=2∨p.hc=6)
 ·have hcn:=col_clear hm.1.1
  rcases hm with ⟨hM,hc | hc⟩
  ·rcases hcn.1 hc with hn | hn
   ·exact (specCol_2_0 p q w hP hZ hc hn hM).mono fun e w' h=>col_at (o:=1) (c:=0) hc (by omega) (by unfold colO; rw [hc]; decide) (by unfold clN colO; rw [hc,hn]; decide) (by rw [Nat.one_mul]) (by rfl) h
   ·exact (specCol_2_3 p q w hP hZ hc hn hM).mono fun e w' h=>col_at (o:=1) (c:=1) hc (by omega) (by unfold colO; rw [hc]; decide) (by unfold clN colO; rw [hc,hn]; decide) (by rw [Nat.one_mul]) (by rfl) h
  ·have hn:=hcn.2 hc
   exact (specCol_6_0 p q w hP hZ hc hn hM).mono fun e w' h=>col_at (o:=2) (c:=0) hc (by omega) (by unfold colO; rw [hc]; decide) (by unfold clN colO; rw [hc,hn]; decide) (by rfl) (by rfl) h
 ·exact (specCol_no p q w hP hZ hm).mono fun e w' h=>col_none hm h
theorem implCol (p:Pic) (q:PicA) (w:World) (hP:PngIn w p q) (hZ:PngSz p) (hcl:p.cn≤q.cc):
  Calls Tryz.prog 16 #[pngV p q] w (LessPost (ColC p) (colP p) w):=by
 by_cases hm:MayR p∧(p.hc=2∨p.hc=6)
 ·have hcn:=col_clear hm.1.1
  rcases hm with ⟨hM,hc | hc⟩
  ·rcases hcn.1 hc with hn | hn
   ·exact (implCol_2_0 p q w hP hZ hc hn).mono fun e w' h=>col_at (o:=1) (c:=0) hc (by omega) (by unfold colO; rw [hc]; decide) (by unfold clN colO; rw [hc,hn]; decide) (by rw [Nat.one_mul]) (by rfl) h
   ·exact (implCol_2_3 p q w hP hZ hcl hc hn).mono fun e w' h=>col_at (o:=1) (c:=1) hc (by omega) (by unfold colO; rw [hc]; decide) (by unfold clN colO; rw [hc,hn]; decide) (by rw [Nat.one_mul]) (by rfl) h
  ·have hn:=hcn.2 hc
   exact (implCol_6_0 p q w hP hZ hc hn).mono fun e w' h=>col_at (o:=2) (c:=0) hc (by omega) (by unfold colO; rw [hc]; decide) (by unfold clN colO; rw [hc,hn]; decide) (by rfl) (by rfl) h
 ·exact (implCol_no p q w hP hZ hm).mono fun e w' h=>col_none hm h
end Go.Proofs.YtkpbfmdnjnohlaaGreat
