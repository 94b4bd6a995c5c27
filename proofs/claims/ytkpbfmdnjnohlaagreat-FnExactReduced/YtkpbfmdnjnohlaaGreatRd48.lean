/-
  Texts of the proof, put together.
-/
import Derived.Test.YtkpbfmdnjnohlaaGreatRd45
import Derived.Test.YtkpbfmdnjnohlaaGreatRd47
namespace Go.Proofs.YtkpbfmdnjnohlaaGreat
open Go.RowKit Go.Joins HeadMath ChunkMath
theorem specTblAll (p:Pic) (q:PicA) (w:World) (hP:PngIn w p q) (hZ:PngSz p):
  Calls Tryz.prog 17 #[pngV p q] w (LessPost (TblC p) (tblP p) w):=by
 by_cases hM:TblM p
 ·exact specTbl p q w hP hZ hM
 ·exact specTbl_no p q w hP hZ hM
theorem implTblAll (p:Pic) (q:PicA) (w:World) (hP:PngIn w p q) (hZ:PngSz p):
  Calls Tryz.prog 18 #[pngV p q] w (LessPost (TblC p) (tblP p) w):=by
 by_cases h:(p.hc=2∨p.hc=6)∧p.hd=8
 ·obtain⟨h1 | h1,h2⟩:=h
  ·exact implTbl_2 p q w hP hZ h1 h2
  ·exact implTbl_6 p q w hP hZ h1 h2
 ·exact implTbl_no p q w h
end Go.Proofs.YtkpbfmdnjnohlaaGreat
