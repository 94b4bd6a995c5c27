/-
  Texts of the proof, put together.
-/
import Derived.Test.YtkpbfmdnjnohlaaGreatCk36
namespace Go.Proofs.YtkpbfmdnjnohlaaGreat
open Go.RowKit OutMath PutMath RastMath HeadMath ChunkMath CrcMath
def colO (p:Pic):Nat:=if p.hc=2 then 1 else 2
def clN (p:Pic):Nat:=p.cn / (colO p+2)
def ColC (p:Pic):Prop:=(MayR p∧(p.hc=2∨p.hc=6))∧(∀ k,k < pixN p→GryR (colO p+2) p.S k)∧∀ k,k < clN p→GryR (colO p+2) p.C k
def colP (p:Pic):Pic:=withP p (p.hc - 2) p.hd (colO p * pixN p) (tkF (colO p+2) 2 (colO p) p.S) (colO p * clN p) (tkF (colO p+2) 2 (colO p) p.C)
theorem col_clear {p:Pic} (h:PngR p):(p.hc=2→p.cn=0∨p.cn=3)∧(p.hc=6→p.cn=0):=by
 obtain⟨_,_,hC,_⟩:=h
 rcases hC with h | ⟨h1,⟨h2,_⟩ | ⟨h2,h3,_⟩ | ⟨h2,_⟩⟩ <;> exact⟨fun _=>by omega,fun _=>by omega⟩
theorem colP_sz {p:Pic} (h:ColC p) (hZ:PngSz p):PngSz (colP p):=by
 have h1:=(png_n h.1.1.1).2.2
 have h3:colO p≤2:=by unfold colO; split <;> omega
 have h4:=Nat.mul_le_mul h3 h1
 have h5:=(png_fits h.1.1.1).2.2.1
 have h6:clN p≤256:=Nat.le_trans (Nat.div_le_self _ _) h5
 have h7:=Nat.mul_le_mul h3 h6
 exact⟨Nat.zero_le _,by show colO p * clN p≤1048576; omega,by show colO p * pixN p≤1048576; omega,hZ.k,hZ.m⟩
end Go.Proofs.YtkpbfmdnjnohlaaGreat
