/-
  Texts of the proof, put together.
-/
import Derived.Test.YtkpbfmdnjnohlaaGreatRd20
import Derived.Test.YtkpbfmdnjnohlaaGreatRd28
namespace Go.Proofs.YtkpbfmdnjnohlaaGreat
open Go.RowKit Go.Joins HeadMath ChunkMath
def grB (d:Int):Int:=if d=2 then 3 else if d=4 then 5 else 17
def GrayC (p:Pic):Prop:=(MayR p∧p.hc=0∧(p.hd=2∨p.hd=4∨p.hd=8))∧HalfR p (grB p.hd)
def grayP (p:Pic):Pic:=halfP p (p.hd / 2) (grB p.hd)
theorem gray_at {p:Pic} {d:Int} {k b:Nat} (hd:p.hd=d) (h3:d=2∨d=4∨d=8) (hk:d / 2=k) (hb:grB d=b) {w:World} {e:Ending} {w':World} (h:LessPost ((MayR p∧p.hc=0)∧HalfR p (b:Nat)) (halfP p k (b:Nat)) w e w'):LessPost (GrayC p) (grayP p) w e w':=by
 refine less_congr ?_ (fun _=>?_) h
 ·unfold GrayC
  rw[hd,hb]
  exact⟨fun h=>⟨⟨h.1.1,h.1.2,h3⟩,h.2⟩,fun h=>⟨⟨h.1.1,h.1.2.1⟩,h.2⟩⟩
 ·unfold grayP
  rw[hd,hb,hk]
theorem gray_none {p:Pic} (hd:¬ (p.hd=2∨p.hd=4∨p.hd=8)) {w:World} {e:Ending} {w':World} (h:e=.returned (.tuple #[noPng,.bool false])∧Below w.heap.size w w'):LessPost (GrayC p) (grayP p) w e w':=.inl ⟨fun k=>hd k.1.2.2,h.1,h.2⟩
theorem specGray (p:Pic) (q:PicA) (w:World) (hP:PngIn w p q) (hZ:PngSz p):
  Calls Tryz.prog 19 #[pngV p q] w (LessPost (GrayC p) (grayP p) w):=by
 by_cases h2:p.hd=2
 ·exact (specGray_2 p q w hP hZ h2).mono fun e w' h=>gray_at (k:=1) (b:=3) h2 (by omega) (by decide) (by decide) h
 by_cases h4:p.hd=4
 ·exact (specGray_4 p q w hP hZ h4).mono fun e w' h=>gray_at (k:=2) (b:=5) h4 (by omega) (by decide) (by decide) h
 by_cases h8:p.hd=8
 ·exact (specGray_8 p q w hP hZ h8).mono fun e w' h=>gray_at (k:=4) (b:=17) h8 (by omega) (by decide) (by decide) h
 have hn:¬ (p.hd=2∨p.hd=4∨p.hd=8):=by omega
 exact (specGray_no p q w hP hZ hn).mono fun e w' h=>gray_none hn h
theorem implGray (p:Pic) (q:PicA) (w:World) (hP:PngIn w p q) (hZ:PngSz p):
  Calls Tryz.prog 20 #[pngV p q] w (LessPost (GrayC p) (grayP p) w):=by
 by_cases h2:p.hd=2
 ·exact (implGray_2 p q w hP hZ h2).mono fun e w' h=>gray_at (k:=1) (b:=3) h2 (by omega) (by decide) (by decide) h
 by_cases h4:p.hd=4
 ·exact (implGray_4 p q w hP hZ h4).mono fun e w' h=>gray_at (k:=2) (b:=5) h4 (by omega) (by decide) (by decide) h
 by_cases h8:p.hd=8
 ·exact (implGray_8 p q w hP hZ h8).mono fun e w' h=>gray_at (k:=4) (b:=17) h8 (by omega) (by decide) (by decide) h
 have hn:¬ (p.hd=2∨p.hd=4∨p.hd=8):=by omega
 exact (implGray_no p q w hn).mono fun e w' h=>gray_none hn h
end Go.Proofs.YtkpbfmdnjnohlaaGreat
