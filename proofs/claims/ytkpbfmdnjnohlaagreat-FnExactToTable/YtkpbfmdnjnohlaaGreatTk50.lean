/-
  Texts of the proof, put together.
-/
import Derived.Test.YtkpbfmdnjnohlaaGreatTk19
namespace Go.Proofs.YtkpbfmdnjnohlaaGreat
open Go.RowKit Go.Joins
set_option maxRecDepth 100000 in
set_option maxHeartbeats 1600000 in
theorem tblDepth_any (n:Nat) (w:World) (h1:1≤n) (hn:n≤256):
  Calls Tryz.prog 58 #[.int .i64 (n:Int)] w fun e w'=>e=.returned (.int .i64 ((tblD n:Nat):Int))∧w'=w:=by
 go_enter Tryz.func58,Tryz.ntmps58
 go_wp2_with fail
 go_loopw [3] (fun i w'=>∃ d:Nat,i=.int .i64 (d:Int)∧Hid (d=1∨(d=2∧2 < n)∨(d=4∧4 < n)∨(d=8∧16 < n))∧w'=w) (fun i _=>9 - (intOf i).toNat)
 case atStart=>exact⟨1,rfl,.inl rfl,rfl⟩
 case round=>
  obtain⟨d,rfl,hd,rfl⟩:=hrel
  rcases hd.out with rfl | ⟨rfl,h2⟩ | ⟨rfl,h2⟩ | ⟨rfl,h2⟩
  ·by_cases h:2 < n
   ·have dl:decide ((2:Int) < (n:Int))=true:=decide_eq_true (by omega)
    have HD:Hid (2 < n):=h
    clear hd
    go_wp2_with fail
    go_roundw
    case rel=>exact⟨2,by go_num,.inr (.inl ⟨rfl,HD.out⟩),by first | rfl | trivial⟩
    case measure=>simp [intOf]
   ·have dl:decide ((2:Int) < (n:Int))=false:=decide_eq_false (by omega)
    have HT:Hid (tblD n=1):=by show _=_; unfold tblD; rw [if_pos (by omega)]
    clear hd
    go_wp2_with fail
    go_ret
    rw[HT.out]
    exact⟨rfl,rfl⟩
  ·by_cases h:4 < n
   ·have dl:decide ((4:Int) < (n:Int))=true:=decide_eq_true (by omega)
    have HD:Hid (4 < n):=h
    clear hd
    go_wp2_with fail
    go_roundw
    case rel=>exact⟨4,by go_num,.inr (.inr (.inl ⟨rfl,HD.out⟩)),by first | rfl | trivial⟩
    case measure=>simp [intOf]
   ·have dl:decide ((4:Int) < (n:Int))=false:=decide_eq_false (by omega)
    have HT:Hid (tblD n=2):=by show _=_; unfold tblD; rw [if_neg (by omega),if_pos (by omega)]
    clear hd
    go_wp2_with fail
    go_ret
    rw[HT.out]
    exact⟨rfl,rfl⟩
  ·by_cases h:16 < n
   ·have dl:decide ((16:Int) < (n:Int))=true:=decide_eq_true (by omega)
    have HD:Hid (16 < n):=h
    clear hd
    go_wp2_with fail
    go_roundw
    case rel=>exact⟨8,by go_num,.inr (.inr (.inr ⟨rfl,HD.out⟩)),by first | rfl | trivial⟩
    case measure=>simp [intOf]
   ·have dl:decide ((16:Int) < (n:Int))=false:=decide_eq_false (by omega)
    have HT:Hid (tblD n=4):=by show _=_; unfold tblD; rw [if_neg (by omega),if_neg (by omega),if_pos (by omega)]
    clear hd
    go_wp2_with fail
    go_ret
    rw[HT.out]
    exact⟨rfl,rfl⟩
  ·have dl:decide ((256:Int) < (n:Int))=false:=decide_eq_false (by omega)
   have HT:Hid (tblD n=8):=by show _=_; unfold tblD; rw [if_neg (by omega),if_neg (by omega),if_neg (by omega)]
   clear hd
   go_wp2_with fail
   go_ret
   rw[HT.out]
   exact⟨rfl,rfl⟩
end Go.Proofs.YtkpbfmdnjnohlaaGreat
