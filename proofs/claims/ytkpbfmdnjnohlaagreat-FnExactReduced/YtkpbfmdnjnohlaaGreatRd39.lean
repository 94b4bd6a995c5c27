/-
  Texts of the proof, put together.
-/
import Derived.Test.YtkpbfmdnjnohlaaGreatRd37
import Derived.Test.YtkpbfmdnjnohlaaGreatRd38
namespace Go.Proofs.YtkpbfmdnjnohlaaGreat
open Go.RowKit Go.Joins HeadMath ChunkMath
theorem cov_at {p:Pic} {hc hd M:Int} {o sn:Nat} (e1:p.hc=hc) (e2:p.hd=hd) (h46:hc=4∨hc=6) (eo:covO p=o) (eM:covM p=M) (es:o * pixN p=sn) {w:World} {e:Ending} {w':World} (h:LessPost (MayR p∧∀ k,k < pixN p→p.S ((o+1) * k+o)=M) (withP p (hc - 4) hd sn (tkF (o+1) 0 o p.S) 0 (fun _=>0)) w e w'):LessPost (CovC p) (covP p) w e w':=by
 refine less_congr ?_ (fun _=>?_) h
 ·unfold CovC
  rw[eo,eM,e1]
  exact⟨fun h=>⟨⟨h.1,h46⟩,h.2⟩,fun h=>⟨h.1.1,h.2⟩⟩
 ·unfold covP
  rw[eo,e1,e2,es]
theorem cov_none {p:Pic} (hn:¬ (MayR p∧(p.hc=4∨p.hc=6))) {w:World} {e:Ending} {w':World} (h:e=.returned (.tuple #[noPng,.bool false])∧Below w.heap.size w w'):LessPost (CovC p) (covP p) w e w':=.inl ⟨fun k=>hn k.1,h.1,h.2⟩
theorem specCov (p:Pic) (q:PicA) (w:World) (hP:PngIn w p q) (hZ:PngSz p):
  Calls Tryz.prog 9 #[pngV p q] w (LessPost (CovC p) (covP p) w):=by
 by_cases hm:MayR p∧(p.hc=4∨p.hc=6)
 ·have hd:=may_depth hm.1 hm.2
  rcases hm with ⟨hM,hc | hc⟩
  ·rcases hd with hd | hd
   ·exact (specCov_4_8 p q w hP hZ hc hd hM).mono fun e w' h=>cov_at (o:=1) (M:=255) hc hd (by omega) (by unfold covO; rw [hc]; decide) (by unfold covM; rw [hd]; decide) (by rw [Nat.one_mul]) h
   ·exact (specCov_4_16 p q w hP hZ hc hd hM).mono fun e w' h=>cov_at (o:=1) (M:=65535) hc hd (by omega) (by unfold covO; rw [hc]; decide) (by unfold covM; rw [hd]; decide) (by rw [Nat.one_mul]) h
  ·rcases hd with hd | hd
   ·exact (specCov_6_8 p q w hP hZ hc hd hM).mono fun e w' h=>cov_at (o:=3) (M:=255) hc hd (by omega) (by unfold covO; rw [hc]; decide) (by unfold covM; rw [hd]; decide) (by rfl) h
   ·exact (specCov_6_16 p q w hP hZ hc hd hM).mono fun e w' h=>cov_at (o:=3) (M:=65535) hc hd (by omega) (by unfold covO; rw [hc]; decide) (by unfold covM; rw [hd]; decide) (by rfl) h
 ·exact (specCov_no p q w hP hZ hm).mono fun e w' h=>cov_none hm h
theorem implCov (p:Pic) (q:PicA) (w:World) (hP:PngIn w p q) (hZ:PngSz p):
  Calls Tryz.prog 11 #[pngV p q] w (LessPost (CovC p) (covP p) w):=by
 by_cases hm:MayR p∧(p.hc=4∨p.hc=6)
 ·have hd:=may_depth hm.1 hm.2
  rcases hm with ⟨hM,hc | hc⟩
  ·rcases hd with hd | hd
   ·exact (implCov_4_8 p q w hP hZ hc hd).mono fun e w' h=>cov_at (o:=1) (M:=255) hc hd (by omega) (by unfold covO; rw [hc]; decide) (by unfold covM; rw [hd]; decide) (by rw [Nat.one_mul]) h
   ·exact (implCov_4_16 p q w hP hZ hc hd).mono fun e w' h=>cov_at (o:=1) (M:=65535) hc hd (by omega) (by unfold covO; rw [hc]; decide) (by unfold covM; rw [hd]; decide) (by rw [Nat.one_mul]) h
  ·rcases hd with hd | hd
   ·exact (implCov_6_8 p q w hP hZ hc hd).mono fun e w' h=>cov_at (o:=3) (M:=255) hc hd (by omega) (by unfold covO; rw [hc]; decide) (by unfold covM; rw [hd]; decide) (by rfl) h
   ·exact (implCov_6_16 p q w hP hZ hc hd).mono fun e w' h=>cov_at (o:=3) (M:=65535) hc hd (by omega) (by unfold covO; rw [hc]; decide) (by unfold covM; rw [hd]; decide) (by rfl) h
 ·exact (implCov_no p q w hP hZ hm).mono fun e w' h=>cov_none hm h
end Go.Proofs.YtkpbfmdnjnohlaaGreat
